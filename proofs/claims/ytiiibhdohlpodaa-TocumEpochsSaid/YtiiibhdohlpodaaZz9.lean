/- Texts put together: what the theorem stands on. -/
import Derived.Test.YtiiibhdohlpodaaZz7
import Derived.Test.YtiiibhdohlpodaaZz8
import Derived.WalkKit
import Derived.WalkLawsBesides
import Derived.WalkSpells
import Derived.Deep.AppendSrc
import Derived.Deep.AppendLies
import Derived.ProofKit
import Derived.OpenShut
import Derived.WideShapes
import Derived.Lib.Hide
import Derived.Laws.Rows
import Derived.Deep.RegionHeld3
import Derived.Deep.RegionWith
import Derived.Deep.DrawnRows
import Derived.Deep.QuietTactic
import Derived.BigQuiet
import Derived.Outline
import Derived.Deep.DeepCutAuto
import Derived.Deep.LoopGhost
import Derived.Deep.RegionLaw
import Derived.Deep.CutBlock
import Derived.StillTailTactics
import Derived.Test.YtiiibhdohlpodaaRows
import Derived.Laws.Externs
import Derived.Lib.SmallJoins
import Derived.Laws.OwnMore
import Derived.OrdersHeld
import Derived.StillTail
import Derived.RegionTactic
import Derived.BigRegion

namespace Go.Proofs.Ytiiibhdohlpodaa
open Go.RowKit
def mgE (a b : HistV) : Nat := if levE a b ≠ 0 then levE a b else if 18446744073709551616 ≤ (levX a b).total + (levY a b).total then 4 else if spN (levX a b).po (levX a b).pl (levY a b).po (levY a b).pl ≤ 160 ∧ spN (levX a b).no (levX a b).nl (levY a b).no (levY a b).nl ≤ 160 then 0 else 1
def mgH2 (X Y : HistV) : HistV := ⟨X.sc, X.ze + Y.ze, mgO X.po X.pl Y.po Y.pl, mgR X.po X.pl Y.po Y.pl, mgO X.no X.nl Y.no Y.nl, mgR X.no X.nl Y.no Y.nl⟩
def mgH (a b : HistV) : HistV := if mgE a b = 0 then mgH2 (levX a b) (levY a b) else zeroH
/-- What a call answers that makes a histogram, in new memory. -/
def HistNew (w : World) (R : HistV) (E : Nat) (e : Ending) (w' : World) : Prop :=
  ∃ pv nv, e = .returned (.tuple #[histV R pv nv, .int .i64 (E : Int)]) ∧ Mine w w' 25 pv (uvals R.pl) ∧ Mine w w' 25 nv (uvals R.nl)
theorem HistNew.zero {w w' : World} {E : Nat} (hk : Kept (fun _ => False) w w') : HistNew w zeroH E (.returned (.tuple #[histV zeroH (.slice none 0 0) (.slice none 0 0), .int .i64 (E : Int)])) w' :=
  ⟨_, _, rfl, Mine.nil' _ hk, Mine.nil' _ hk⟩
theorem lev_right {a b : HistV} (h : levE a b = 0) (oka : a.ok) (okb : b.ok) : a.err = 0 ∧ b.err = 0 ∧ (levX a b).err = 0 ∧ (levY a b).err = 0 ∧ (levX a b).ok ∧ (levY a b).ok ∧ (levX a b).total = a.total ∧ (levY a b).total = b.total := by
  have h1 : a.err = 0 := by
    by_cases e : a.err = 0
    · exact e
    · unfold levE at h; rw [if_pos e] at h; exact h
  have h2 : b.err = 0 := by unfold levE at h; rw [if_neg (by omega)] at h; exact h
  obtain ⟨g1, g2, g3, g4, g5⟩ := lev_good h1 h2
  refine ⟨h1, h2, ?_, ?_, ?_, ?_, ?_, ?_⟩
  · rw [g4, downR_ok g2]; have := downE_zero g2; exact downH_err a _ h1 (by omega)
  · rw [g5, downR_ok g3]; have := downE_zero g3; exact downH_err b _ h2 (by omega)
  · rw [g4]; exact downR_ok' a _ oka
  · rw [g5]; exact downR_ok' b _ okb
  · rw [g4, downR_ok g2]; exact downH_total a _
  · rw [g5, downR_ok g3]; exact downH_total b _
/-- Three boxes: two histograms that came in, and one to answer. -/
structure HB3 (w wr : World) (a b r : HistV) (ap an bp bn rp rn : Value) : Prop where
  a : HistBox wr w.heap.size a ap an
  b : HistBox wr (w.heap.size + 1) b bp bn
  r : HistBox wr (w.heap.size + 1 + 1) r rp rn
theorem HB3.on {w wr w' : World} {a b r : HistV} {ap an bp bn rp rn : Value} (h : HB3 w wr a b r ap an bp bn rp rn) (k : Kept (fun _ => False) wr w') : HB3 w w' a b r ap an bp bn rp rn := ⟨h.a.same k (fun x => x), h.b.same k (fun x => x), h.r.same k (fun x => x)⟩
theorem HB3.mk0 (w : World) (a b : HistV) (ap an bp bn : Value) : HB3 w (((w.alloc (.cells #[.int .i64 a.sc, .int .u64 (a.ze : Int), .int .i64 a.po, ap, .int .i64 a.no, an] 30)).alloc (.cells #[.int .i64 b.sc, .int .u64 (b.ze : Int), .int .i64 b.po, bp, .int .i64 b.no, bn] 30)).alloc (.cells #[.int .i64 0, .int .u64 0, .int .i64 0, .slice none 0 0, .int .i64 0, .slice none 0 0] 30)) a b zeroH ap an bp bn (.slice none 0 0) (.slice none 0 0) := by
  have k := fun (w : World) o => (Kept.refl (fun _ => False) w).alloc o
  refine ⟨?_, ?_, ?_⟩
  · exact ((hist_boxed w a ap an).same (k _ _) (fun x => x)).same (k _ _) (fun x => x)
  · have := hist_boxed (w.alloc (.cells #[.int .i64 a.sc, .int .u64 (a.ze : Int), .int .i64 a.po, ap, .int .i64 a.no, an] 30)) b bp bn
    rw [show (w.alloc (.cells #[.int .i64 a.sc, .int .u64 (a.ze : Int), .int .i64 a.po, ap, .int .i64 a.no, an] 30)).heap.size = w.heap.size + 1 by simp] at this
    exact this.same (k _ _) (fun x => x)
  · have := hist_alloc ((w.alloc (.cells #[.int .i64 a.sc, .int .u64 (a.ze : Int), .int .i64 a.po, ap, .int .i64 a.no, an] 30)).alloc (.cells #[.int .i64 b.sc, .int .u64 (b.ze : Int), .int .i64 b.po, bp, .int .i64 b.no, bn] 30))
    rw [show ((w.alloc (.cells #[.int .i64 a.sc, .int .u64 (a.ze : Int), .int .i64 a.po, ap, .int .i64 a.no, an] 30)).alloc (.cells #[.int .i64 b.sc, .int .u64 (b.ze : Int), .int .i64 b.po, bp, .int .i64 b.no, bn] 30)).heap.size = w.heap.size + 1 + 1 by simp] at this
    exact this
/-- A pair of histograms in new memory. -/
structure Two2 (w wr : World) (X Y : HistV) (p1 n1 p2 n2 : Value) : Prop where
  p1 : Mine w wr 25 p1 (uvals X.pl)
  n1 : Mine w wr 25 n1 (uvals X.nl)
  p2 : Mine w wr 25 p2 (uvals Y.pl)
  n2 : Mine w wr 25 n2 (uvals Y.nl)
theorem Two2.on {w wr w' : World} {X Y : HistV} {p1 n1 p2 n2 : Value} (h : Two2 w wr X Y p1 n1 p2 n2) (k : Kept (fun _ => False) wr w') : Two2 w w' X Y p1 n1 p2 n2 := ⟨h.p1.on k, h.n1.on k, h.p2.on k, h.n2.on k⟩
theorem Two2.atX {w wr : World} {X Y : HistV} {p1 n1 p2 n2 : Value} (h : Two2 w wr X Y p1 n1 p2 n2) : HistAt wr X p1 n1 := ⟨h.p1.at_, h.n1.at_⟩
theorem Two2.atY {w wr : World} {X Y : HistV} {p1 n1 p2 n2 : Value} (h : Two2 w wr X Y p1 n1 p2 n2) : HistAt wr Y p2 n2 := ⟨h.p2.at_, h.n2.at_⟩
theorem side_boxed (w : World) (o : Int) (v : Value) : SideBox (w.alloc (.cells #[.int .i64 o, v] 28)) w.heap.size o v := heap_alloc_new w _
end Go.Proofs.Ytiiibhdohlpodaa
namespace Go.Proofs.Ytiiibhdohlpodaa
open Go.RowKit
attribute [local go_sem ↓] Go.wp_at_zero Go.wp_at_succ
set_option maxHeartbeats 4000000 in
set_option maxRecDepth 100000 in
theorem foldMerge_any (a b : HistV) (ap an bp bn : Value) (w : World) (ha : HistIn w a ap an) (hb : HistIn w b bp bn) (la1 : a.pl.length ≤ 1000000) (la2 : a.nl.length ≤ 1000000) (lb1 : b.pl.length ≤ 1000000) (lb2 : b.nl.length ≤ 1000000) :
    Calls Try.prog 17 #[histV a ap an, histV b bp bn] w (HistNew w (mgH a b) (mgE a b)) := by
  obtain ⟨⟨ao, c, rfl⟩, a1, c1, rfl⟩ := ha.at_.sl
  obtain ⟨⟨bo, d, rfl⟩, b1, d1, rfl⟩ := hb.at_.sl
  have hlb := HB3.mk0 w a b (.slice ao a.pl.length c) (.slice a1 a.nl.length c1) (.slice bo b.pl.length d) (.slice b1 b.nl.length d1)
  obtain ⟨w0, hw0⟩ : ∃ w0, w0 = (((w.alloc (.cells #[.int .i64 a.sc, .int .u64 (a.ze : Int), .int .i64 a.po, .slice ao a.pl.length c, .int .i64 a.no, .slice a1 a.nl.length c1] 30)).alloc (.cells #[.int .i64 b.sc, .int .u64 (b.ze : Int), .int .i64 b.po, .slice bo b.pl.length d, .int .i64 b.no, .slice b1 b.nl.length d1] 30)).alloc (.cells #[.int .i64 0, .int .u64 0, .int .i64 0, .slice none 0 0, .int .i64 0, .slice none 0 0] 30)) := ⟨_, rfl⟩
  rw [← hw0] at hlb
  have k0 : Kept (fun _ => False) w w0 := by rw [hw0]; exact (((Kept.refl _ w).alloc _).alloc _).alloc _
  have HK0 := Lib.hid k0
  have HB0 := Lib.hid hlb
  have hlv := foldLevel_any a b _ _ _ _ w0 (ha.at_.on k0) (hb.at_.on k0) ha.ok hb.ok la1 la2 lb1 lb2
  have hbad := lev_bad (a := a) (b := b)
  have hright := fun h => lev_right (a := a) (b := b) h ha.ok hb.ok
  have HW0 := Lib.hid hw0
  have hE : mgE a b = if levE a b ≠ 0 then levE a b else if 18446744073709551616 ≤ (levX a b).total + (levY a b).total then 4 else if spN (levX a b).po (levX a b).pl (levY a b).po (levY a b).pl ≤ 160 ∧ spN (levX a b).no (levX a b).nl (levY a b).no (levY a b).nl ≤ 160 then 0 else 1 := rfl
  have hR : mgH a b = if mgE a b = 0 then mgH2 (levX a b) (levY a b) else zeroH := rfl
  rw [hR]
  obtain ⟨EE, hEE⟩ : ∃ E, E = mgE a b := ⟨_, rfl⟩
  rw [← hEE] at hE ⊢
  clear hR hEE
  obtain ⟨X, hX⟩ : ∃ X, X = levX a b := ⟨_, rfl⟩
  obtain ⟨Y, hY⟩ : ∃ Y, Y = levY a b := ⟨_, rfl⟩
  obtain ⟨EL, hEL⟩ : ∃ E, E = levE a b := ⟨_, rfl⟩
  rw [← hX, ← hY] at hlv hbad hright hE ⊢
  rw [← hEL] at hlv hbad hright hE
  have HLV := Lib.hid hlv
  by_cases hz : EL = 0
  · have qE : ((EL : Int) != 0) = false := bneF (by omega)
    obtain ⟨_, _, ex, ey, okx, oky, _, _⟩ := hright hz
    obtain ⟨⟨sx1, sx2⟩, hx1, hx2, hx3⟩ := err_light ex
    obtain ⟨_, hy1, hy2, hy3⟩ := err_light ey
    obtain ⟨sx3, sx4⟩ := side_range hx1
    obtain ⟨sx5, sx6⟩ := side_range hx2
    obtain ⟨sy3, sy4⟩ := side_range hy1
    obtain ⟨sy5, sy6⟩ := side_range hy2
    obtain ⟨tx1, tx2⟩ := total_parts hx3
    obtain ⟨ty1, ty2⟩ := total_parts hy3
    have zx := okx.ze
    have zy := oky.ze
    have HT1 := Lib.hid fun w' pv nv (k : HistAt w' X pv nv) => histTotal_any X pv nv w' k okx.ze (by omega) (by omega) okx.pl okx.nl
    have HT2 := Lib.hid fun w' pv nv (k : HistAt w' Y pv nv) => histTotal_any Y pv nv w' k oky.ze (by omega) (by omega) oky.pl oky.nl
    have e1 : totV X = .tuple #[.int .u64 (X.total : Int), .bool true] := by unfold totV; rw [if_pos hx3, decide_eq_true hx3]
    have e2 : totV Y = .tuple #[.int .u64 (Y.total : Int), .bool true] := by unfold totV; rw [if_pos hy3, decide_eq_true hy3]
    rw [e1] at HT1
    rw [e2] at HT2
    clear e1 e2
    have tsx : X.ze + X.pl.sum + X.nl.sum = X.total := by unfold HistV.total sumN; rfl
    have tsy : Y.ze + Y.pl.sum + Y.nl.sum = Y.total := by unfold HistV.total sumN; rfl
    obtain ⟨TX, hTX⟩ : ∃ T, T = X.total := ⟨_, rfl⟩
    obtain ⟨TY, hTY⟩ : ∃ T, T = Y.total := ⟨_, rfl⟩
    rw [← hTX] at HT1 hE tsx hx3
    rw [← hTY] at HT2 hE tsy hy3
    obtain ⟨Z, hZ⟩ : ∃ Z : Nat, Z = 18446744073709551615 - TY := ⟨_, rfl⟩
    have d1 : IntKind.u64.wrap (18446744073709551615 - (TY : Int)) = (Z : Int) := by rw [IntKind.wrap_u64]; omega
    have d2 : (18446744073709551615 : Int) - (TY : Int) = (Z : Int) := by omega
    have d3 : IntKind.u64.wrap (Z : Int) = (Z : Int) := by rw [IntKind.wrap_u64]; omega
    by_cases hbig : Z < TX
    · have qb : (Z : Int) < (TX : Int) := by omega
      rw [if_neg (by omega), if_pos (by omega)] at hE
      have HBADS : Hid (∀ w', Kept (fun _ => False) w w' → HistNew w (if EE = 0 then mgH2 X Y else zeroH) EE (.returned (.tuple #[histV zeroH (.slice none 0 0) (.slice none 0 0), .int .i64 4])) w') := Lib.hid fun w' k => by rw [if_neg (by omega), hE]; exact HistNew.zero k
      obtain ⟨RR, hRR⟩ : ∃ R, R = if EE = 0 then mgH2 X Y else zeroH := ⟨_, rfl⟩
      rw [← hRR] at HBADS ⊢
      clear hX hY hEL hlb k0 hw0 hlv hbad hright ha hb la1 la2 lb1 lb2 hE hz ex ey okx oky sx1 sx2 hx1 hx2 hx3 hy1 hy2 hy3 sx3 sx4 sx5 sx6 sy3 sy4 sy5 sy6 tx1 tx2 ty1 ty2 zx zy hRR hTX hTY hZ hbig tsx tsy
      obtain ⟨asc, aze, apo, apl, ano, anl⟩ := a
      obtain ⟨bsc, bze, bpo, bpl, bno, bnl⟩ := b
      unfold histV at HLV ⊢
      simp only at HLV HW0 ⊢
      go_enter Try.func17, Try.ntmps17
      go_upto_region 1 with fail
      rw [← HW0.out]
      obtain ⟨v0, v1, v2, v3, v4, v5⟩ := HB0.out.a.c
      obtain ⟨u0, u1, u2, u3, u4, u5⟩ := HB0.out.b.c
      go_wp2_with fail
      refine (HLV.out).mono ?_
      rintro e w1 ⟨p1, n1, p2, n2, rfl, m1, m2, m3, m4⟩
      obtain ⟨p1, q1, rfl⟩ := m1.slice
      obtain ⟨n1, r1, rfl⟩ := m2.slice
      obtain ⟨p2, q2, rfl⟩ := m3.slice
      obtain ⟨n2, r2, rfl⟩ := m4.slice
      unfold histV
      dsimp only
      have hk1 := (m1.kept.alloc (.cells #[.int .i64 X.sc, .int .u64 (X.ze : Int), .int .i64 X.po, .slice p1 (uvals X.pl).length q1, .int .i64 X.no, .slice n1 (uvals X.nl).length r1] 30)).alloc (.cells #[.int .i64 Y.sc, .int .u64 (Y.ze : Int), .int .i64 Y.po, .slice p2 (uvals Y.pl).length q2, .int .i64 Y.no, .slice n2 (uvals Y.nl).length r2] 30)
      have ha1 := (Kept.refl (fun _ => False) w1).alloc (.cells #[.int .i64 X.sc, .int .u64 (X.ze : Int), .int .i64 X.po, .slice p1 (uvals X.pl).length q1, .int .i64 X.no, .slice n1 (uvals X.nl).length r1] 30)
      have ha2 := (Kept.refl (fun _ => False) (w1.alloc (.cells #[.int .i64 X.sc, .int .u64 (X.ze : Int), .int .i64 X.po, .slice p1 (uvals X.pl).length q1, .int .i64 X.no, .slice n1 (uvals X.nl).length r1] 30))).alloc (.cells #[.int .i64 Y.sc, .int .u64 (Y.ze : Int), .int .i64 Y.po, .slice p2 (uvals Y.pl).length q2, .int .i64 Y.no, .slice n2 (uvals Y.nl).length r2] 30)
      obtain ⟨ws, hws⟩ : ∃ ws, ws = (w1.alloc (.cells #[.int .i64 X.sc, .int .u64 (X.ze : Int), .int .i64 X.po, .slice p1 (uvals X.pl).length q1, .int .i64 X.no, .slice n1 (uvals X.nl).length r1] 30)).alloc (.cells #[.int .i64 Y.sc, .int .u64 (Y.ze : Int), .int .i64 Y.po, .slice p2 (uvals Y.pl).length q2, .int .i64 Y.no, .slice n2 (uvals Y.nl).length r2] 30) := ⟨_, rfl⟩
      have hxb := (hist_boxed w1 X (.slice p1 (uvals X.pl).length q1) (.slice n1 (uvals X.nl).length r1)).same ha2 (fun x => x)
      have hyb := hist_boxed (w1.alloc (.cells #[.int .i64 X.sc, .int .u64 (X.ze : Int), .int .i64 X.po, .slice p1 (uvals X.pl).length q1, .int .i64 X.no, .slice n1 (uvals X.nl).length r1] 30)) Y (.slice p2 (uvals Y.pl).length q2) (.slice n2 (uvals Y.nl).length r2)
      rw [show (w1.alloc (.cells #[.int .i64 X.sc, .int .u64 (X.ze : Int), .int .i64 X.po, .slice p1 (uvals X.pl).length q1, .int .i64 X.no, .slice n1 (uvals X.nl).length r1] 30)).heap.size = w1.heap.size + 1 by simp] at hyb
      have htw := (Two2.mk m1 m2 m3 m4).on (ha1.trans ha2)
      rw [← hws] at hk1 hxb hyb htw
      have HXB := Lib.hid hxb
      have HYB := Lib.hid hyb
      have HTW := Lib.hid htw
      have HK1 := Lib.hid hk1
      have HBX := Lib.hid (HB0.out.on hk1)
      have HWS := Lib.hid hws
      clear m1 m2 m3 m4 hk1 htw hws v0 v1 v2 v3 v4 v5 u0 u1 u2 u3 u4 u5 hxb hyb ha1 ha2
      go_upto_region 2 with fail
      rw [← HWS.out]
      obtain ⟨x0, x1, x2, x3, x4, x5⟩ := HXB.out.c
      obtain ⟨y0, y1, y2, y3, y4, y5⟩ := HYB.out.c
      go_wp2_with fail
      refine (HT1.out _ _ _ HTW.out.atX).mono ?_
      rintro e w2 ⟨rfl, k2⟩
      have HS2 := Lib.hid k2
      clear k2
      have HBX := Lib.hid (HBX.out.on HS2.out)
      have HTW := Lib.hid (HTW.out.on HS2.out)
      have HXB := Lib.hid (HXB.out.same HS2.out (fun x => x))
      have HYB := Lib.hid (HYB.out.same HS2.out (fun x => x))
      clear x0 x1 x2 x3 x4 x5 y0 y1 y2 y3 y4 y5
      obtain ⟨x0, x1, x2, x3, x4, x5⟩ := HXB.out.c
      obtain ⟨y0, y1, y2, y3, y4, y5⟩ := HYB.out.c
      go_wp2_with fail
      refine (HT2.out _ _ _ HTW.out.atY).mono ?_
      rintro e w3 ⟨rfl, k3⟩
      have HS3 := Lib.hid k3
      clear k3
      have HBX := Lib.hid (HBX.out.on HS3.out)
      have HTW := Lib.hid (HTW.out.on HS3.out)
      have HXB := Lib.hid (HXB.out.same HS3.out (fun x => x))
      have HYB := Lib.hid (HYB.out.same HS3.out (fun x => x))
      clear x0 x1 x2 x3 x4 x5 y0 y1 y2 y3 y4 y5
      obtain ⟨s0, s1, s2, s3, s4, s5⟩ := HBX.out.r.c
      obtain ⟨g0, g1, g2, g3, g4, g5⟩ := HBX.out.r.f
      go_wp2
      refine hist_end (h := zeroH) (pv := .slice none 0 0) (nv := .slice none 0 0) Try.results17 rfl rfl rfl (HBX.out.r.set zeroH (.slice none 0 0) (.slice none 0 0)) ?_
      exact HBADS.out _ ((HK0.out.trans HTW.out.p1.kept).newer (set6_kept _ _ _ _ _ _ _ _) (fun i e => by omega))
    · have qb : ¬ (Z : Int) < (TX : Int) := by omega
      rw [if_neg (by omega), if_neg (by omega)] at hE
      have HC1 := Lib.hid (fun w' {p1 n1 p2 n2 : Value} (t : Two2 w0 w' X Y p1 n1 p2 n2) => foldMerge1_any X.po X.pl Y.po Y.pl _ _ w0 w' t.p1 t.p2 hx1 hy1 (by omega))
      have HC2 := Lib.hid (fun w' {p1 n1 p2 n2 : Value} (t : Two2 w0 w' X Y p1 n1 p2 n2) => foldMerge1_any X.no X.nl Y.no Y.nl _ _ w0 w' t.n1 t.n2 hx2 hy2 (by omega))
      obtain ⟨N1, hN1⟩ : ∃ N, N = spN X.po X.pl Y.po Y.pl := ⟨_, rfl⟩
      obtain ⟨N2, hN2⟩ : ∃ N, N = spN X.no X.nl Y.no Y.nl := ⟨_, rfl⟩
      rw [← hN1, ← hN2] at hE
      have hk1 : mgOk X.po X.pl Y.po Y.pl = decide (N1 ≤ 160) := by rw [hN1]; rfl
      have hk2 : mgOk X.no X.nl Y.no Y.nl = decide (N2 ≤ 160) := by rw [hN2]; rfl
      have hmr : mgH2 X Y = ⟨X.sc, X.ze + Y.ze, mgO X.po X.pl Y.po Y.pl, mgR X.po X.pl Y.po Y.pl, mgO X.no X.nl Y.no Y.nl, mgR X.no X.nl Y.no Y.nl⟩ := rfl
      rw [hmr]
      rw [hk1] at HC1
      rw [hk2] at HC2
      obtain ⟨O1, hO1⟩ : ∃ O, O = mgO X.po X.pl Y.po Y.pl := ⟨_, rfl⟩
      obtain ⟨L1, hL1⟩ : ∃ O, O = mgR X.po X.pl Y.po Y.pl := ⟨_, rfl⟩
      obtain ⟨O2, hO2⟩ : ∃ O, O = mgO X.no X.nl Y.no Y.nl := ⟨_, rfl⟩
      obtain ⟨L2, hL2⟩ : ∃ O, O = mgR X.no X.nl Y.no Y.nl := ⟨_, rfl⟩
      rw [← hO1, ← hL1] at HC1
      rw [← hO2, ← hL2] at HC2
      rw [← hO1, ← hL1, ← hO2, ← hL2]
      clear hk1 hk2 hmr hO1 hO2 hL1 hL2
      obtain ⟨ZE, hZE⟩ : ∃ Z, Z = X.ze + Y.ze := ⟨_, rfl⟩
      rw [← hZE]
      have u1 : IntKind.u64.wrap ((X.ze : Int) + (Y.ze : Int)) = (ZE : Int) := by rw [IntKind.wrap_u64]; omega
      have u2 : (X.ze : Int) + (Y.ze : Int) = (ZE : Int) := by omega
      have u3 : IntKind.u64.wrap (ZE : Int) = (ZE : Int) := by rw [IntKind.wrap_u64]; omega
      obtain ⟨RR, hRR⟩ : ∃ R, R = if EE = 0 then (⟨X.sc, ZE, O1, L1, O2, L2⟩ : HistV) else zeroH := ⟨_, rfl⟩
      rw [← hRR]
      by_cases hs : N1 ≤ 160 ∧ N2 ≤ 160
      · rw [if_pos hs] at hE
        rw [if_pos hE] at hRR
        rw [decide_eq_true hs.1] at HC1
        rw [decide_eq_true hs.2] at HC2
        have HGOOD : Hid (∀ w' pv nv, Mine w w' 25 pv (uvals L1) → Mine w w' 25 nv (uvals L2) → HistNew w RR EE (.returned (.tuple #[histV ⟨X.sc, ZE, O1, L1, O2, L2⟩ pv nv, .int .i64 0])) w') := Lib.hid fun w' pv nv h1 h2 => by rw [hRR, hE]; exact ⟨pv, nv, rfl, h1, h2⟩
        clear hX hY hEL hlb k0 hw0 hlv hbad hright ha hb la1 la2 lb1 lb2 hE hz ex ey okx oky sx1 sx2 hx1 hx2 hx3 hy1 hy2 hy3 sx3 sx4 sx5 sx6 sy3 sy4 sy5 sy6 tx1 tx2 ty1 ty2 zx zy hTX hTY hZ hbig tsx tsy hN1 hN2 hZE hRR hs
        obtain ⟨asc, aze, apo, apl, ano, anl⟩ := a
        obtain ⟨bsc, bze, bpo, bpl, bno, bnl⟩ := b
        unfold histV at HLV ⊢
        simp only at HLV HW0 ⊢
        go_enter Try.func17, Try.ntmps17
        go_upto_region 1 with fail
        rw [← HW0.out]
        obtain ⟨v0, v1, v2, v3, v4, v5⟩ := HB0.out.a.c
        obtain ⟨u0, u1, u2, u3, u4, u5⟩ := HB0.out.b.c
        go_wp2_with fail
        refine (HLV.out).mono ?_
        rintro e w1 ⟨p1, n1, p2, n2, rfl, m1, m2, m3, m4⟩
        obtain ⟨p1, q1, rfl⟩ := m1.slice
        obtain ⟨n1, r1, rfl⟩ := m2.slice
        obtain ⟨p2, q2, rfl⟩ := m3.slice
        obtain ⟨n2, r2, rfl⟩ := m4.slice
        unfold histV
        dsimp only
        have hk1 := (m1.kept.alloc (.cells #[.int .i64 X.sc, .int .u64 (X.ze : Int), .int .i64 X.po, .slice p1 (uvals X.pl).length q1, .int .i64 X.no, .slice n1 (uvals X.nl).length r1] 30)).alloc (.cells #[.int .i64 Y.sc, .int .u64 (Y.ze : Int), .int .i64 Y.po, .slice p2 (uvals Y.pl).length q2, .int .i64 Y.no, .slice n2 (uvals Y.nl).length r2] 30)
        have ha1 := (Kept.refl (fun _ => False) w1).alloc (.cells #[.int .i64 X.sc, .int .u64 (X.ze : Int), .int .i64 X.po, .slice p1 (uvals X.pl).length q1, .int .i64 X.no, .slice n1 (uvals X.nl).length r1] 30)
        have ha2 := (Kept.refl (fun _ => False) (w1.alloc (.cells #[.int .i64 X.sc, .int .u64 (X.ze : Int), .int .i64 X.po, .slice p1 (uvals X.pl).length q1, .int .i64 X.no, .slice n1 (uvals X.nl).length r1] 30))).alloc (.cells #[.int .i64 Y.sc, .int .u64 (Y.ze : Int), .int .i64 Y.po, .slice p2 (uvals Y.pl).length q2, .int .i64 Y.no, .slice n2 (uvals Y.nl).length r2] 30)
        obtain ⟨ws, hws⟩ : ∃ ws, ws = (w1.alloc (.cells #[.int .i64 X.sc, .int .u64 (X.ze : Int), .int .i64 X.po, .slice p1 (uvals X.pl).length q1, .int .i64 X.no, .slice n1 (uvals X.nl).length r1] 30)).alloc (.cells #[.int .i64 Y.sc, .int .u64 (Y.ze : Int), .int .i64 Y.po, .slice p2 (uvals Y.pl).length q2, .int .i64 Y.no, .slice n2 (uvals Y.nl).length r2] 30) := ⟨_, rfl⟩
        have hxb := (hist_boxed w1 X (.slice p1 (uvals X.pl).length q1) (.slice n1 (uvals X.nl).length r1)).same ha2 (fun x => x)
        have hyb := hist_boxed (w1.alloc (.cells #[.int .i64 X.sc, .int .u64 (X.ze : Int), .int .i64 X.po, .slice p1 (uvals X.pl).length q1, .int .i64 X.no, .slice n1 (uvals X.nl).length r1] 30)) Y (.slice p2 (uvals Y.pl).length q2) (.slice n2 (uvals Y.nl).length r2)
        rw [show (w1.alloc (.cells #[.int .i64 X.sc, .int .u64 (X.ze : Int), .int .i64 X.po, .slice p1 (uvals X.pl).length q1, .int .i64 X.no, .slice n1 (uvals X.nl).length r1] 30)).heap.size = w1.heap.size + 1 by simp] at hyb
        have htw := (Two2.mk m1 m2 m3 m4).on (ha1.trans ha2)
        rw [← hws] at hk1 hxb hyb htw
        have HXB := Lib.hid hxb
        have HYB := Lib.hid hyb
        have HTW := Lib.hid htw
        have HK1 := Lib.hid hk1
        have HBX := Lib.hid (HB0.out.on hk1)
        have HWS := Lib.hid hws
        clear m1 m2 m3 m4 hk1 htw hws v0 v1 v2 v3 v4 v5 u0 u1 u2 u3 u4 u5 hxb hyb ha1 ha2
        go_upto_region 2 with fail
        rw [← HWS.out]
        obtain ⟨x0, x1, x2, x3, x4, x5⟩ := HXB.out.c
        obtain ⟨y0, y1, y2, y3, y4, y5⟩ := HYB.out.c
        go_wp2_with fail
        refine (HT1.out _ _ _ HTW.out.atX).mono ?_
        rintro e w2 ⟨rfl, k2⟩
        have HS2 := Lib.hid k2
        clear k2
        have HBX := Lib.hid (HBX.out.on HS2.out)
        have HTW := Lib.hid (HTW.out.on HS2.out)
        have HXB := Lib.hid (HXB.out.same HS2.out (fun x => x))
        have HYB := Lib.hid (HYB.out.same HS2.out (fun x => x))
        clear x0 x1 x2 x3 x4 x5 y0 y1 y2 y3 y4 y5
        obtain ⟨x0, x1, x2, x3, x4, x5⟩ := HXB.out.c
        obtain ⟨y0, y1, y2, y3, y4, y5⟩ := HYB.out.c
        go_wp2_with fail
        refine (HT2.out _ _ _ HTW.out.atY).mono ?_
        rintro e w3 ⟨rfl, k3⟩
        have HS3 := Lib.hid k3
        clear k3
        have HBX := Lib.hid (HBX.out.on HS3.out)
        have HTW := Lib.hid (HTW.out.on HS3.out)
        have HXB := Lib.hid (HXB.out.same HS3.out (fun x => x))
        have HYB := Lib.hid (HYB.out.same HS3.out (fun x => x))
        clear x0 x1 x2 x3 x4 x5 y0 y1 y2 y3 y4 y5
        obtain ⟨x0, x1, x2, x3, x4, x5⟩ := HXB.out.c
        obtain ⟨y0, y1, y2, y3, y4, y5⟩ := HYB.out.c
        go_wp2_with fail
        refine (HC1.out _ HTW.out).mono ?_
        rintro e w4 ⟨v4, rfl, m4, k4⟩
        obtain ⟨a4, q4, rfl⟩ := m4.slice
        have hs4 := k4.alloc (.cells #[.int .i64 O1, .slice a4 (uvals L1).length q4] 28)
        have hm4 := m4.on ((Kept.refl (fun _ => False) w4).alloc (.cells #[.int .i64 O1, .slice a4 (uvals L1).length q4] 28))
        have hb4 := side_boxed w4 O1 (.slice a4 (uvals L1).length q4)
        obtain ⟨wx4, hwx4⟩ : ∃ w', w' = w4.alloc (.cells #[.int .i64 O1, .slice a4 (uvals L1).length q4] 28) := ⟨_, rfl⟩
        rw [← hwx4] at hs4 hm4 hb4
        have HS4 := Lib.hid hs4
        have HM4 := Lib.hid hm4
        have HSB4 := Lib.hid hb4
        have HWX4 := Lib.hid hwx4
        clear k4 m4 hs4 hm4 hb4 hwx4
        have HBX := Lib.hid (HBX.out.on HS4.out)
        have HTW := Lib.hid (HTW.out.on HS4.out)
        have HXB := Lib.hid (HXB.out.same HS4.out (fun x => x))
        have HYB := Lib.hid (HYB.out.same HS4.out (fun x => x))
        clear x0 x1 x2 x3 x4 x5 y0 y1 y2 y3 y4 y5
        go_upto_region 9 with fail
        rw [← HWX4.out]
        obtain ⟨x0, x1, x2, x3, x4, x5⟩ := HXB.out.c
        obtain ⟨y0, y1, y2, y3, y4, y5⟩ := HYB.out.c
        go_wp2_with fail
        refine (HC2.out _ HTW.out).mono ?_
        rintro e w5 ⟨v5, rfl, m5, k5⟩
        obtain ⟨a5, q5, rfl⟩ := m5.slice
        have hs5 := k5.alloc (.cells #[.int .i64 O2, .slice a5 (uvals L2).length q5] 28)
        have hm5 := m5.on ((Kept.refl (fun _ => False) w5).alloc (.cells #[.int .i64 O2, .slice a5 (uvals L2).length q5] 28))
        have hb5 := side_boxed w5 O2 (.slice a5 (uvals L2).length q5)
        obtain ⟨wx5, hwx5⟩ : ∃ w', w' = w5.alloc (.cells #[.int .i64 O2, .slice a5 (uvals L2).length q5] 28) := ⟨_, rfl⟩
        rw [← hwx5] at hs5 hm5 hb5
        have HS5 := Lib.hid hs5
        have HM5 := Lib.hid hm5
        have HSB5 := Lib.hid hb5
        have HWX5 := Lib.hid hwx5
        clear k5 m5 hs5 hm5 hb5 hwx5
        have HBX := Lib.hid (HBX.out.on HS5.out)
        have HTW := Lib.hid (HTW.out.on HS5.out)
        have HXB := Lib.hid (HXB.out.same HS5.out (fun x => x))
        have HYB := Lib.hid (HYB.out.same HS5.out (fun x => x))
        have HM4 := Lib.hid (HM4.out.on HS5.out)
        have HSB4 := Lib.hid (HSB4.out.same HS5.out (fun x => x))
        clear x0 x1 x2 x3 x4 x5 y0 y1 y2 y3 y4 y5
        go_upto_region 10 with fail
        rw [← HWX5.out]
        obtain ⟨x0, x1, x2, x3, x4, x5⟩ := HXB.out.c
        obtain ⟨y0, y1, y2, y3, y4, y5⟩ := HYB.out.c
        obtain ⟨⟨b40, b41⟩, _⟩ := HSB4.out.c
        obtain ⟨⟨b50, b51⟩, _⟩ := HSB5.out.c
        obtain ⟨s0, s1, s2, s3, s4, s5⟩ := HBX.out.r.c
        obtain ⟨g0, g1, g2, g3, g4, g5⟩ := HBX.out.r.f
        go_wp2
        refine hist_end (h := ⟨X.sc, ZE, O1, L1, O2, L2⟩) (pv := .slice a4 (uvals L1).length q4) (nv := .slice a5 (uvals L2).length q5) Try.results17 rfl rfl rfl (HBX.out.r.set ⟨X.sc, ZE, O1, L1, O2, L2⟩ _ _) ?_
        refine HGOOD.out _ _ _ ?_ ?_
        · exact (HM4.out.down HK0.out).set6 HBX.out.r (by omega) _ _ _ _ _ _
        · exact (HM5.out.down HK0.out).set6 HBX.out.r (by omega) _ _ _ _ _ _
      · rw [if_neg hs] at hE
        rw [if_neg (by omega)] at hRR
        have HBADS : Hid (∀ w', Kept (fun _ => False) w w' → HistNew w RR EE (.returned (.tuple #[histV zeroH (.slice none 0 0) (.slice none 0 0), .int .i64 1])) w') := Lib.hid fun w' k => by rw [hRR, hE]; exact HistNew.zero k
        by_cases hp1 : N1 ≤ 160
        · rw [decide_eq_true hp1] at HC1
          rw [decide_eq_false (show ¬ N2 ≤ 160 by omega)] at HC2
          clear hX hY hEL hlb k0 hw0 hlv hbad hright ha hb la1 la2 lb1 lb2 hE hz ex ey okx oky sx1 sx2 hx1 hx2 hx3 hy1 hy2 hy3 sx3 sx4 sx5 sx6 sy3 sy4 sy5 sy6 tx1 tx2 ty1 ty2 zx zy hTX hTY hZ hbig tsx tsy hN1 hN2 hZE hRR hs hp1
          obtain ⟨asc, aze, apo, apl, ano, anl⟩ := a
          obtain ⟨bsc, bze, bpo, bpl, bno, bnl⟩ := b
          unfold histV at HLV ⊢
          simp only at HLV HW0 ⊢
          go_enter Try.func17, Try.ntmps17
          go_upto_region 1 with fail
          rw [← HW0.out]
          obtain ⟨v0, v1, v2, v3, v4, v5⟩ := HB0.out.a.c
          obtain ⟨u0, u1, u2, u3, u4, u5⟩ := HB0.out.b.c
          go_wp2_with fail
          refine (HLV.out).mono ?_
          rintro e w1 ⟨p1, n1, p2, n2, rfl, m1, m2, m3, m4⟩
          obtain ⟨p1, q1, rfl⟩ := m1.slice
          obtain ⟨n1, r1, rfl⟩ := m2.slice
          obtain ⟨p2, q2, rfl⟩ := m3.slice
          obtain ⟨n2, r2, rfl⟩ := m4.slice
          unfold histV
          dsimp only
          have hk1 := (m1.kept.alloc (.cells #[.int .i64 X.sc, .int .u64 (X.ze : Int), .int .i64 X.po, .slice p1 (uvals X.pl).length q1, .int .i64 X.no, .slice n1 (uvals X.nl).length r1] 30)).alloc (.cells #[.int .i64 Y.sc, .int .u64 (Y.ze : Int), .int .i64 Y.po, .slice p2 (uvals Y.pl).length q2, .int .i64 Y.no, .slice n2 (uvals Y.nl).length r2] 30)
          have ha1 := (Kept.refl (fun _ => False) w1).alloc (.cells #[.int .i64 X.sc, .int .u64 (X.ze : Int), .int .i64 X.po, .slice p1 (uvals X.pl).length q1, .int .i64 X.no, .slice n1 (uvals X.nl).length r1] 30)
          have ha2 := (Kept.refl (fun _ => False) (w1.alloc (.cells #[.int .i64 X.sc, .int .u64 (X.ze : Int), .int .i64 X.po, .slice p1 (uvals X.pl).length q1, .int .i64 X.no, .slice n1 (uvals X.nl).length r1] 30))).alloc (.cells #[.int .i64 Y.sc, .int .u64 (Y.ze : Int), .int .i64 Y.po, .slice p2 (uvals Y.pl).length q2, .int .i64 Y.no, .slice n2 (uvals Y.nl).length r2] 30)
          obtain ⟨ws, hws⟩ : ∃ ws, ws = (w1.alloc (.cells #[.int .i64 X.sc, .int .u64 (X.ze : Int), .int .i64 X.po, .slice p1 (uvals X.pl).length q1, .int .i64 X.no, .slice n1 (uvals X.nl).length r1] 30)).alloc (.cells #[.int .i64 Y.sc, .int .u64 (Y.ze : Int), .int .i64 Y.po, .slice p2 (uvals Y.pl).length q2, .int .i64 Y.no, .slice n2 (uvals Y.nl).length r2] 30) := ⟨_, rfl⟩
          have hxb := (hist_boxed w1 X (.slice p1 (uvals X.pl).length q1) (.slice n1 (uvals X.nl).length r1)).same ha2 (fun x => x)
          have hyb := hist_boxed (w1.alloc (.cells #[.int .i64 X.sc, .int .u64 (X.ze : Int), .int .i64 X.po, .slice p1 (uvals X.pl).length q1, .int .i64 X.no, .slice n1 (uvals X.nl).length r1] 30)) Y (.slice p2 (uvals Y.pl).length q2) (.slice n2 (uvals Y.nl).length r2)
          rw [show (w1.alloc (.cells #[.int .i64 X.sc, .int .u64 (X.ze : Int), .int .i64 X.po, .slice p1 (uvals X.pl).length q1, .int .i64 X.no, .slice n1 (uvals X.nl).length r1] 30)).heap.size = w1.heap.size + 1 by simp] at hyb
          have htw := (Two2.mk m1 m2 m3 m4).on (ha1.trans ha2)
          rw [← hws] at hk1 hxb hyb htw
          have HXB := Lib.hid hxb
          have HYB := Lib.hid hyb
          have HTW := Lib.hid htw
          have HK1 := Lib.hid hk1
          have HBX := Lib.hid (HB0.out.on hk1)
          have HWS := Lib.hid hws
          clear m1 m2 m3 m4 hk1 htw hws v0 v1 v2 v3 v4 v5 u0 u1 u2 u3 u4 u5 hxb hyb ha1 ha2
          go_upto_region 2 with fail
          rw [← HWS.out]
          obtain ⟨x0, x1, x2, x3, x4, x5⟩ := HXB.out.c
          obtain ⟨y0, y1, y2, y3, y4, y5⟩ := HYB.out.c
          go_wp2_with fail
          refine (HT1.out _ _ _ HTW.out.atX).mono ?_
          rintro e w2 ⟨rfl, k2⟩
          have HS2 := Lib.hid k2
          clear k2
          have HBX := Lib.hid (HBX.out.on HS2.out)
          have HTW := Lib.hid (HTW.out.on HS2.out)
          have HXB := Lib.hid (HXB.out.same HS2.out (fun x => x))
          have HYB := Lib.hid (HYB.out.same HS2.out (fun x => x))
          clear x0 x1 x2 x3 x4 x5 y0 y1 y2 y3 y4 y5
          obtain ⟨x0, x1, x2, x3, x4, x5⟩ := HXB.out.c
          obtain ⟨y0, y1, y2, y3, y4, y5⟩ := HYB.out.c
          go_wp2_with fail
          refine (HT2.out _ _ _ HTW.out.atY).mono ?_
          rintro e w3 ⟨rfl, k3⟩
          have HS3 := Lib.hid k3
          clear k3
          have HBX := Lib.hid (HBX.out.on HS3.out)
          have HTW := Lib.hid (HTW.out.on HS3.out)
          have HXB := Lib.hid (HXB.out.same HS3.out (fun x => x))
          have HYB := Lib.hid (HYB.out.same HS3.out (fun x => x))
          clear x0 x1 x2 x3 x4 x5 y0 y1 y2 y3 y4 y5
          obtain ⟨x0, x1, x2, x3, x4, x5⟩ := HXB.out.c
          obtain ⟨y0, y1, y2, y3, y4, y5⟩ := HYB.out.c
          go_wp2_with fail
          refine (HC1.out _ HTW.out).mono ?_
          rintro e w4 ⟨v4, rfl, m4, k4⟩
          obtain ⟨a4, q4, rfl⟩ := m4.slice
          have hs4 := k4.alloc (.cells #[.int .i64 O1, .slice a4 (uvals L1).length q4] 28)
          have hm4 := m4.on ((Kept.refl (fun _ => False) w4).alloc (.cells #[.int .i64 O1, .slice a4 (uvals L1).length q4] 28))
          have hb4 := side_boxed w4 O1 (.slice a4 (uvals L1).length q4)
          obtain ⟨wx4, hwx4⟩ : ∃ w', w' = w4.alloc (.cells #[.int .i64 O1, .slice a4 (uvals L1).length q4] 28) := ⟨_, rfl⟩
          rw [← hwx4] at hs4 hm4 hb4
          have HS4 := Lib.hid hs4
          have HM4 := Lib.hid hm4
          have HSB4 := Lib.hid hb4
          have HWX4 := Lib.hid hwx4
          clear k4 m4 hs4 hm4 hb4 hwx4
          have HBX := Lib.hid (HBX.out.on HS4.out)
          have HTW := Lib.hid (HTW.out.on HS4.out)
          have HXB := Lib.hid (HXB.out.same HS4.out (fun x => x))
          have HYB := Lib.hid (HYB.out.same HS4.out (fun x => x))
          clear x0 x1 x2 x3 x4 x5 y0 y1 y2 y3 y4 y5
          go_upto_region 9 with fail
          rw [← HWX4.out]
          obtain ⟨x0, x1, x2, x3, x4, x5⟩ := HXB.out.c
          obtain ⟨y0, y1, y2, y3, y4, y5⟩ := HYB.out.c
          go_wp2_with fail
          refine (HC2.out _ HTW.out).mono ?_
          rintro e w5 ⟨v5, rfl, m5, k5⟩
          obtain ⟨a5, q5, rfl⟩ := m5.slice
          have hs5 := k5.alloc (.cells #[.int .i64 O2, .slice a5 (uvals L2).length q5] 28)
          have hm5 := m5.on ((Kept.refl (fun _ => False) w5).alloc (.cells #[.int .i64 O2, .slice a5 (uvals L2).length q5] 28))
          have hb5 := side_boxed w5 O2 (.slice a5 (uvals L2).length q5)
          obtain ⟨wx5, hwx5⟩ : ∃ w', w' = w5.alloc (.cells #[.int .i64 O2, .slice a5 (uvals L2).length q5] 28) := ⟨_, rfl⟩
          rw [← hwx5] at hs5 hm5 hb5
          have HS5 := Lib.hid hs5
          have HM5 := Lib.hid hm5
          have HSB5 := Lib.hid hb5
          have HWX5 := Lib.hid hwx5
          clear k5 m5 hs5 hm5 hb5 hwx5
          have HBX := Lib.hid (HBX.out.on HS5.out)
          have HTW := Lib.hid (HTW.out.on HS5.out)
          have HXB := Lib.hid (HXB.out.same HS5.out (fun x => x))
          have HYB := Lib.hid (HYB.out.same HS5.out (fun x => x))
          have HM4 := Lib.hid (HM4.out.on HS5.out)
          have HSB4 := Lib.hid (HSB4.out.same HS5.out (fun x => x))
          clear x0 x1 x2 x3 x4 x5 y0 y1 y2 y3 y4 y5
          go_upto_region 10 with fail
          rw [← HWX5.out]
          obtain ⟨x0, x1, x2, x3, x4, x5⟩ := HXB.out.c
          obtain ⟨y0, y1, y2, y3, y4, y5⟩ := HYB.out.c
          obtain ⟨s0, s1, s2, s3, s4, s5⟩ := HBX.out.r.c
          obtain ⟨g0, g1, g2, g3, g4, g5⟩ := HBX.out.r.f
          go_wp2
          refine hist_end (h := zeroH) (pv := .slice none 0 0) (nv := .slice none 0 0) Try.results17 rfl rfl rfl (HBX.out.r.set zeroH (.slice none 0 0) (.slice none 0 0)) ?_
          exact HBADS.out _ ((HK0.out.trans HTW.out.p1.kept).newer (set6_kept _ _ _ _ _ _ _ _) (fun i e => by omega))
        · rw [decide_eq_false hp1] at HC1
          obtain ⟨K2, hK2⟩ : ∃ K, K = decide (N2 ≤ 160) := ⟨_, rfl⟩
          rw [← hK2] at HC2
          clear hX hY hEL hlb k0 hw0 hlv hbad hright ha hb la1 la2 lb1 lb2 hE hz ex ey okx oky sx1 sx2 hx1 hx2 hx3 hy1 hy2 hy3 sx3 sx4 sx5 sx6 sy3 sy4 sy5 sy6 tx1 tx2 ty1 ty2 zx zy hTX hTY hZ hbig tsx tsy hN1 hN2 hZE hRR hs hp1 hK2
          obtain ⟨asc, aze, apo, apl, ano, anl⟩ := a
          obtain ⟨bsc, bze, bpo, bpl, bno, bnl⟩ := b
          unfold histV at HLV ⊢
          simp only at HLV HW0 ⊢
          go_enter Try.func17, Try.ntmps17
          go_upto_region 1 with fail
          rw [← HW0.out]
          obtain ⟨v0, v1, v2, v3, v4, v5⟩ := HB0.out.a.c
          obtain ⟨u0, u1, u2, u3, u4, u5⟩ := HB0.out.b.c
          go_wp2_with fail
          refine (HLV.out).mono ?_
          rintro e w1 ⟨p1, n1, p2, n2, rfl, m1, m2, m3, m4⟩
          obtain ⟨p1, q1, rfl⟩ := m1.slice
          obtain ⟨n1, r1, rfl⟩ := m2.slice
          obtain ⟨p2, q2, rfl⟩ := m3.slice
          obtain ⟨n2, r2, rfl⟩ := m4.slice
          unfold histV
          dsimp only
          have hk1 := (m1.kept.alloc (.cells #[.int .i64 X.sc, .int .u64 (X.ze : Int), .int .i64 X.po, .slice p1 (uvals X.pl).length q1, .int .i64 X.no, .slice n1 (uvals X.nl).length r1] 30)).alloc (.cells #[.int .i64 Y.sc, .int .u64 (Y.ze : Int), .int .i64 Y.po, .slice p2 (uvals Y.pl).length q2, .int .i64 Y.no, .slice n2 (uvals Y.nl).length r2] 30)
          have ha1 := (Kept.refl (fun _ => False) w1).alloc (.cells #[.int .i64 X.sc, .int .u64 (X.ze : Int), .int .i64 X.po, .slice p1 (uvals X.pl).length q1, .int .i64 X.no, .slice n1 (uvals X.nl).length r1] 30)
          have ha2 := (Kept.refl (fun _ => False) (w1.alloc (.cells #[.int .i64 X.sc, .int .u64 (X.ze : Int), .int .i64 X.po, .slice p1 (uvals X.pl).length q1, .int .i64 X.no, .slice n1 (uvals X.nl).length r1] 30))).alloc (.cells #[.int .i64 Y.sc, .int .u64 (Y.ze : Int), .int .i64 Y.po, .slice p2 (uvals Y.pl).length q2, .int .i64 Y.no, .slice n2 (uvals Y.nl).length r2] 30)
          obtain ⟨ws, hws⟩ : ∃ ws, ws = (w1.alloc (.cells #[.int .i64 X.sc, .int .u64 (X.ze : Int), .int .i64 X.po, .slice p1 (uvals X.pl).length q1, .int .i64 X.no, .slice n1 (uvals X.nl).length r1] 30)).alloc (.cells #[.int .i64 Y.sc, .int .u64 (Y.ze : Int), .int .i64 Y.po, .slice p2 (uvals Y.pl).length q2, .int .i64 Y.no, .slice n2 (uvals Y.nl).length r2] 30) := ⟨_, rfl⟩
          have hxb := (hist_boxed w1 X (.slice p1 (uvals X.pl).length q1) (.slice n1 (uvals X.nl).length r1)).same ha2 (fun x => x)
          have hyb := hist_boxed (w1.alloc (.cells #[.int .i64 X.sc, .int .u64 (X.ze : Int), .int .i64 X.po, .slice p1 (uvals X.pl).length q1, .int .i64 X.no, .slice n1 (uvals X.nl).length r1] 30)) Y (.slice p2 (uvals Y.pl).length q2) (.slice n2 (uvals Y.nl).length r2)
          rw [show (w1.alloc (.cells #[.int .i64 X.sc, .int .u64 (X.ze : Int), .int .i64 X.po, .slice p1 (uvals X.pl).length q1, .int .i64 X.no, .slice n1 (uvals X.nl).length r1] 30)).heap.size = w1.heap.size + 1 by simp] at hyb
          have htw := (Two2.mk m1 m2 m3 m4).on (ha1.trans ha2)
          rw [← hws] at hk1 hxb hyb htw
          have HXB := Lib.hid hxb
          have HYB := Lib.hid hyb
          have HTW := Lib.hid htw
          have HK1 := Lib.hid hk1
          have HBX := Lib.hid (HB0.out.on hk1)
          have HWS := Lib.hid hws
          clear m1 m2 m3 m4 hk1 htw hws v0 v1 v2 v3 v4 v5 u0 u1 u2 u3 u4 u5 hxb hyb ha1 ha2
          go_upto_region 2 with fail
          rw [← HWS.out]
          obtain ⟨x0, x1, x2, x3, x4, x5⟩ := HXB.out.c
          obtain ⟨y0, y1, y2, y3, y4, y5⟩ := HYB.out.c
          go_wp2_with fail
          refine (HT1.out _ _ _ HTW.out.atX).mono ?_
          rintro e w2 ⟨rfl, k2⟩
          have HS2 := Lib.hid k2
          clear k2
          have HBX := Lib.hid (HBX.out.on HS2.out)
          have HTW := Lib.hid (HTW.out.on HS2.out)
          have HXB := Lib.hid (HXB.out.same HS2.out (fun x => x))
          have HYB := Lib.hid (HYB.out.same HS2.out (fun x => x))
          clear x0 x1 x2 x3 x4 x5 y0 y1 y2 y3 y4 y5
          obtain ⟨x0, x1, x2, x3, x4, x5⟩ := HXB.out.c
          obtain ⟨y0, y1, y2, y3, y4, y5⟩ := HYB.out.c
          go_wp2_with fail
          refine (HT2.out _ _ _ HTW.out.atY).mono ?_
          rintro e w3 ⟨rfl, k3⟩
          have HS3 := Lib.hid k3
          clear k3
          have HBX := Lib.hid (HBX.out.on HS3.out)
          have HTW := Lib.hid (HTW.out.on HS3.out)
          have HXB := Lib.hid (HXB.out.same HS3.out (fun x => x))
          have HYB := Lib.hid (HYB.out.same HS3.out (fun x => x))
          clear x0 x1 x2 x3 x4 x5 y0 y1 y2 y3 y4 y5
          obtain ⟨x0, x1, x2, x3, x4, x5⟩ := HXB.out.c
          obtain ⟨y0, y1, y2, y3, y4, y5⟩ := HYB.out.c
          go_wp2_with fail
          refine (HC1.out _ HTW.out).mono ?_
          rintro e w4 ⟨v4, rfl, m4, k4⟩
          obtain ⟨a4, q4, rfl⟩ := m4.slice
          have hs4 := k4.alloc (.cells #[.int .i64 O1, .slice a4 (uvals L1).length q4] 28)
          have hm4 := m4.on ((Kept.refl (fun _ => False) w4).alloc (.cells #[.int .i64 O1, .slice a4 (uvals L1).length q4] 28))
          have hb4 := side_boxed w4 O1 (.slice a4 (uvals L1).length q4)
          obtain ⟨wx4, hwx4⟩ : ∃ w', w' = w4.alloc (.cells #[.int .i64 O1, .slice a4 (uvals L1).length q4] 28) := ⟨_, rfl⟩
          rw [← hwx4] at hs4 hm4 hb4
          have HS4 := Lib.hid hs4
          have HM4 := Lib.hid hm4
          have HSB4 := Lib.hid hb4
          have HWX4 := Lib.hid hwx4
          clear k4 m4 hs4 hm4 hb4 hwx4
          have HBX := Lib.hid (HBX.out.on HS4.out)
          have HTW := Lib.hid (HTW.out.on HS4.out)
          have HXB := Lib.hid (HXB.out.same HS4.out (fun x => x))
          have HYB := Lib.hid (HYB.out.same HS4.out (fun x => x))
          clear x0 x1 x2 x3 x4 x5 y0 y1 y2 y3 y4 y5
          go_upto_region 9 with fail
          rw [← HWX4.out]
          obtain ⟨x0, x1, x2, x3, x4, x5⟩ := HXB.out.c
          obtain ⟨y0, y1, y2, y3, y4, y5⟩ := HYB.out.c
          go_wp2_with fail
          refine (HC2.out _ HTW.out).mono ?_
          rintro e w5 ⟨v5, rfl, m5, k5⟩
          obtain ⟨a5, q5, rfl⟩ := m5.slice
          have hs5 := k5.alloc (.cells #[.int .i64 O2, .slice a5 (uvals L2).length q5] 28)
          have hm5 := m5.on ((Kept.refl (fun _ => False) w5).alloc (.cells #[.int .i64 O2, .slice a5 (uvals L2).length q5] 28))
          have hb5 := side_boxed w5 O2 (.slice a5 (uvals L2).length q5)
          obtain ⟨wx5, hwx5⟩ : ∃ w', w' = w5.alloc (.cells #[.int .i64 O2, .slice a5 (uvals L2).length q5] 28) := ⟨_, rfl⟩
          rw [← hwx5] at hs5 hm5 hb5
          have HS5 := Lib.hid hs5
          have HM5 := Lib.hid hm5
          have HSB5 := Lib.hid hb5
          have HWX5 := Lib.hid hwx5
          clear k5 m5 hs5 hm5 hb5 hwx5
          have HBX := Lib.hid (HBX.out.on HS5.out)
          have HTW := Lib.hid (HTW.out.on HS5.out)
          have HXB := Lib.hid (HXB.out.same HS5.out (fun x => x))
          have HYB := Lib.hid (HYB.out.same HS5.out (fun x => x))
          have HM4 := Lib.hid (HM4.out.on HS5.out)
          have HSB4 := Lib.hid (HSB4.out.same HS5.out (fun x => x))
          clear x0 x1 x2 x3 x4 x5 y0 y1 y2 y3 y4 y5
          go_upto_region 10 with fail
          rw [← HWX5.out]
          obtain ⟨x0, x1, x2, x3, x4, x5⟩ := HXB.out.c
          obtain ⟨y0, y1, y2, y3, y4, y5⟩ := HYB.out.c
          obtain ⟨s0, s1, s2, s3, s4, s5⟩ := HBX.out.r.c
          obtain ⟨g0, g1, g2, g3, g4, g5⟩ := HBX.out.r.f
          go_wp2
          refine hist_end (h := zeroH) (pv := .slice none 0 0) (nv := .slice none 0 0) Try.results17 rfl rfl rfl (HBX.out.r.set zeroH (.slice none 0 0) (.slice none 0 0)) ?_
          exact HBADS.out _ ((HK0.out.trans HTW.out.p1.kept).newer (set6_kept _ _ _ _ _ _ _ _) (fun i e => by omega))
  · have qE : ((EL : Int) != 0) = true := bneT (by omega)
    rw [if_pos hz] at hE
    obtain ⟨e1, e2⟩ := hbad (by omega)
    have HBADE : Hid (∀ w', Kept (fun _ => False) w w' → HistNew w (if EE = 0 then mgH2 X Y else zeroH) EE (.returned (.tuple #[histV zeroH (.slice none 0 0) (.slice none 0 0), .int .i64 (EL : Int)])) w') := Lib.hid fun w' k => by rw [if_neg (by omega), hE]; exact HistNew.zero k
    obtain ⟨RR, hRR⟩ : ∃ R, R = if EE = 0 then mgH2 X Y else zeroH := ⟨_, rfl⟩
    rw [← hRR] at HBADE ⊢
    clear hX hY hEL hlb k0 hw0 hlv hbad hright ha hb la1 la2 lb1 lb2 hE hz e1 e2 hRR
    obtain ⟨asc, aze, apo, apl, ano, anl⟩ := a
    obtain ⟨bsc, bze, bpo, bpl, bno, bnl⟩ := b
    unfold histV at HLV ⊢
    simp only at HLV HW0 ⊢
    go_enter Try.func17, Try.ntmps17
    go_upto_region 1 with fail
    rw [← HW0.out]
    obtain ⟨v0, v1, v2, v3, v4, v5⟩ := HB0.out.a.c
    obtain ⟨u0, u1, u2, u3, u4, u5⟩ := HB0.out.b.c
    go_wp2_with fail
    refine (HLV.out).mono ?_
    rintro e w1 ⟨p1, n1, p2, n2, rfl, m1, m2, m3, m4⟩
    obtain ⟨p1, q1, rfl⟩ := m1.slice
    obtain ⟨n1, r1, rfl⟩ := m2.slice
    obtain ⟨p2, q2, rfl⟩ := m3.slice
    obtain ⟨n2, r2, rfl⟩ := m4.slice
    unfold histV
    dsimp only
    have hk1 := (m1.kept.alloc (.cells #[.int .i64 X.sc, .int .u64 (X.ze : Int), .int .i64 X.po, .slice p1 (uvals X.pl).length q1, .int .i64 X.no, .slice n1 (uvals X.nl).length r1] 30)).alloc (.cells #[.int .i64 Y.sc, .int .u64 (Y.ze : Int), .int .i64 Y.po, .slice p2 (uvals Y.pl).length q2, .int .i64 Y.no, .slice n2 (uvals Y.nl).length r2] 30)
    have ha1 := (Kept.refl (fun _ => False) w1).alloc (.cells #[.int .i64 X.sc, .int .u64 (X.ze : Int), .int .i64 X.po, .slice p1 (uvals X.pl).length q1, .int .i64 X.no, .slice n1 (uvals X.nl).length r1] 30)
    have ha2 := (Kept.refl (fun _ => False) (w1.alloc (.cells #[.int .i64 X.sc, .int .u64 (X.ze : Int), .int .i64 X.po, .slice p1 (uvals X.pl).length q1, .int .i64 X.no, .slice n1 (uvals X.nl).length r1] 30))).alloc (.cells #[.int .i64 Y.sc, .int .u64 (Y.ze : Int), .int .i64 Y.po, .slice p2 (uvals Y.pl).length q2, .int .i64 Y.no, .slice n2 (uvals Y.nl).length r2] 30)
    obtain ⟨ws, hws⟩ : ∃ ws, ws = (w1.alloc (.cells #[.int .i64 X.sc, .int .u64 (X.ze : Int), .int .i64 X.po, .slice p1 (uvals X.pl).length q1, .int .i64 X.no, .slice n1 (uvals X.nl).length r1] 30)).alloc (.cells #[.int .i64 Y.sc, .int .u64 (Y.ze : Int), .int .i64 Y.po, .slice p2 (uvals Y.pl).length q2, .int .i64 Y.no, .slice n2 (uvals Y.nl).length r2] 30) := ⟨_, rfl⟩
    have hxb := (hist_boxed w1 X (.slice p1 (uvals X.pl).length q1) (.slice n1 (uvals X.nl).length r1)).same ha2 (fun x => x)
    have hyb := hist_boxed (w1.alloc (.cells #[.int .i64 X.sc, .int .u64 (X.ze : Int), .int .i64 X.po, .slice p1 (uvals X.pl).length q1, .int .i64 X.no, .slice n1 (uvals X.nl).length r1] 30)) Y (.slice p2 (uvals Y.pl).length q2) (.slice n2 (uvals Y.nl).length r2)
    rw [show (w1.alloc (.cells #[.int .i64 X.sc, .int .u64 (X.ze : Int), .int .i64 X.po, .slice p1 (uvals X.pl).length q1, .int .i64 X.no, .slice n1 (uvals X.nl).length r1] 30)).heap.size = w1.heap.size + 1 by simp] at hyb
    have htw := (Two2.mk m1 m2 m3 m4).on (ha1.trans ha2)
    rw [← hws] at hk1 hxb hyb htw
    have HXB := Lib.hid hxb
    have HYB := Lib.hid hyb
    have HTW := Lib.hid htw
    have HK1 := Lib.hid hk1
    have HBX := Lib.hid (HB0.out.on hk1)
    have HWS := Lib.hid hws
    clear m1 m2 m3 m4 hk1 htw hws v0 v1 v2 v3 v4 v5 u0 u1 u2 u3 u4 u5 hxb hyb ha1 ha2
    go_upto_region 2 with fail
    rw [← HWS.out]
    obtain ⟨s0, s1, s2, s3, s4, s5⟩ := HBX.out.r.c
    obtain ⟨g0, g1, g2, g3, g4, g5⟩ := HBX.out.r.f
    go_wp2
    refine hist_end (h := zeroH) (pv := .slice none 0 0) (nv := .slice none 0 0) Try.results17 rfl rfl rfl (HBX.out.r.set zeroH (.slice none 0 0) (.slice none 0 0)) ?_
    exact HBADE.out _ ((HK0.out.trans HTW.out.p1.kept).newer (set6_kept _ _ _ _ _ _ _ _) (fun i e => by omega))
end Go.Proofs.Ytiiibhdohlpodaa
namespace Go.Proofs.Ytiiibhdohlpodaa
open Go.RowKit
attribute [local go_sem ↓] Go.wp_at_zero Go.wp_at_succ
end Go.Proofs.Ytiiibhdohlpodaa

namespace Go.Proofs.Ytiiibhdohlpodaa
theorem mgE_zero {a b : HistV} (h : mgE a b = 0) : levE a b = 0 ∧ (levX a b).total + (levY a b).total < 18446744073709551616 ∧ spN (levX a b).po (levX a b).pl (levY a b).po (levY a b).pl ≤ 160 ∧ spN (levX a b).no (levX a b).nl (levY a b).no (levY a b).nl ≤ 160 := by
  unfold mgE at h
  by_cases h1 : levE a b ≠ 0
  · rw [if_pos h1] at h; exact absurd h h1
  · rw [if_neg h1] at h
    by_cases h2 : 18446744073709551616 ≤ (levX a b).total + (levY a b).total
    · rw [if_pos h2] at h; cases h
    · rw [if_neg h2] at h
      by_cases h3 : spN (levX a b).po (levX a b).pl (levY a b).po (levY a b).pl ≤ 160 ∧ spN (levX a b).no (levX a b).nl (levY a b).no (levY a b).nl ≤ 160
      · exact ⟨by omega, by omega, h3.1, h3.2⟩
      · rw [if_neg h3] at h; cases h
theorem mgH2_eq {X Y : HistV} (h3 : spN X.po X.pl Y.po Y.pl ≤ 160) (h4 : spN X.no X.nl Y.no Y.nl ≤ 160) : mgH2 X Y = ⟨X.sc, X.ze + Y.ze, spF X.po X.pl Y.po Y.pl, mgL X.po X.pl Y.po Y.pl, spF X.no X.nl Y.no Y.nl, mgL X.no X.nl Y.no Y.nl⟩ := by
  unfold mgH2 mgO mgR
  rw [if_pos h3, if_pos h4, if_pos h3, if_pos h4]
theorem lev_sc {a b : HistV} (h : levE a b = 0) (oka : a.ok) (okb : b.ok) : (levX a b).sc = levS a b ∧ (levY a b).sc = levS a b := by
  obtain ⟨h1, h2, _⟩ := lev_right h oka okb
  obtain ⟨g1, g2, g3, g4, g5⟩ := lev_good h1 h2
  have d1 := downE_zero g2
  have d2 := downE_zero g3
  rw [g4, g5, downR_ok g2, downR_ok g3]
  exact ⟨by show a.sc - (((a.sc - levS a b).toNat : Nat) : Int) = _; omega, by show b.sc - (((b.sc - levS a b).toNat : Nat) : Int) = _; omega⟩
theorem mg_right {a b : HistV} (h : mgE a b = 0) (oka : a.ok) (okb : b.ok) : (mgH a b).err = 0 ∧ (mgH a b).total = a.total + b.total ∧ (mgH a b).sc = levS a b ∧ (mgH a b).ok := by
  obtain ⟨h1, h2, h3, h4⟩ := mgE_zero h
  obtain ⟨e1, e2, ex, ey, okx, oky, tx, ty⟩ := lev_right h1 oka okb
  obtain ⟨s1, s2⟩ := lev_sc h1 oka okb
  obtain ⟨x1, x2, x3, x4⟩ := err_light ex
  obtain ⟨y1, y2, y3, y4⟩ := err_light ey
  have hR : mgH a b = mgH2 (levX a b) (levY a b) := by unfold mgH; rw [if_pos h]
  rw [hR, mgH2_eq h3 h4]
  have ht : HistV.total ⟨(levX a b).sc, (levX a b).ze + (levY a b).ze, spF (levX a b).po (levX a b).pl (levY a b).po (levY a b).pl, mgL (levX a b).po (levX a b).pl (levY a b).po (levY a b).pl, spF (levX a b).no (levX a b).nl (levY a b).no (levY a b).nl, mgL (levX a b).no (levX a b).nl (levY a b).no (levY a b).nl⟩ = a.total + b.total := by
    rw [← tx, ← ty]
    unfold HistV.total sumN
    simp only [mgL_sum]
    omega
  have r1 := mgL_right _ _ _ _ x2 y2 h3
  have r2 := mgL_right _ _ _ _ x3 y3 h4
  refine ⟨?_, ht, s1, ?_⟩
  · unfold HistV.err
    rw [ht]
    simp only [r1, r2]
    rw [if_neg (by omega), if_neg (by omega), if_neg (by omega), if_neg (by omega)]
  · have q1 := (side_range r1).1
    have q2 := (side_range r2).1
    have z1 := okx.ze
    have z2 : (levX a b).total = (levX a b).ze + (levX a b).pl.sum + (levX a b).nl.sum := rfl
    have z3 : (levY a b).total = (levY a b).ze + (levY a b).pl.sum + (levY a b).nl.sum := rfl
    refine ⟨by simp only; omega, by simp only; omega, by simp only; omega, fun x hx => ?_, by simp only; omega, fun x hx => ?_⟩
    · have := mem_sum hx
      simp only [mgL_sum] at this
      omega
    · have := mem_sum hx
      simp only [mgL_sum] at this
      omega
end Go.Proofs.Ytiiibhdohlpodaa

namespace Go.Proofs.Ytiiibhdohlpodaa
open Go.RowKit
/-- Has a histogram so few buckets? -/
def fitsB (h : HistV) (most : Int) : Bool := decide ((h.pl.length : Int) ≤ most) && decide ((h.nl.length : Int) ≤ most)
/-- As fine as so many buckets allow, from the k-th step down on. -/
def togK (X Y : HistV) (most : Int) : Nat → Nat → HistV × Bool
  | 0, _ => (zeroH, false)
  | f + 1, k => if mgE (downR X k) (downR Y k) = 4 then (zeroH, false) else
      if mgE (downR X k) (downR Y k) = 0 ∧ fitsB (mgH (downR X k) (downR Y k)) most = true then (mgH (downR X k) (downR Y k), true) else togK X Y most f (k + 1)
def togF (X : HistV) : Nat := (X.sc + 11).toNat
/-- Two histograms together. -/
def togH (a b : HistV) (most : Int) : HistV × Bool := if levE a b = 0 then togK (levX a b) (levY a b) most (togF (levX a b)) 0 else (zeroH, false)
theorem err_sc {h : HistV} (e : h.err = 0) : -10 ≤ h.sc ∧ h.sc ≤ 20 := (err_light e).1
theorem down_at {X : HistV} (he : X.err = 0) {k : Nat} (hk : (k : Int) ≤ X.sc + 10) : downE X k = 0 ∧ downR X k = downH X k ∧ (downR X k).err = 0 ∧ (downR X k).sc = X.sc - k := by
  have h0 : downE X k = 0 := downE_mk he (by omega) hk
  have h1 : downR X k = downH X k := by rw [downR_ok h0]; rfl
  exact ⟨h0, h1, by rw [h1]; exact downH_err X k he hk, by rw [h1]; rfl⟩
theorem down_next {X : HistV} (he : X.err = 0) {k : Nat} (hk : ((k + 1 : Nat) : Int) ≤ X.sc + 10) : downE (downR X k) 1 = 0 ∧ downR (downR X k) 1 = downR X ((k + 1 : Nat) : Int) := by
  obtain ⟨h0, _, h2, h3⟩ := down_at he (k := k) (by omega)
  have h4 : downE (downR X k) 1 = 0 := downE_mk h2 (by omega) (by rw [h3]; omega)
  exact ⟨h4, (twice_ok X k 1 h0 h4).2.1⟩
theorem down_first {X : HistV} (he : X.err = 0) : downR X ((0 : Nat) : Int) = X := by
  have := down_at he (k := 0) (by have := err_sc he; omega)
  rw [this.2.1]
  exact downH_zero X he
/-- What is told of two histograms together. -/
theorem togK_right {X Y : HistV} {most : Int} (hx : X.err = 0) (hy : Y.err = 0) (ox : X.ok) (oy : Y.ok) (hs : Y.sc = X.sc) (f : Nat) : ∀ (k : Nat) (R : HistV), (k : Int) + f ≤ X.sc + 11 → togK X Y most f k = (R, true) →
    R.err = 0 ∧ R.total = X.total + Y.total ∧ fitsB R most = true ∧ R.ok := by
  induction f with
  | zero => intro k R _ h; simp [togK] at h
  | succ f ih =>
    intro k R hk h
    rw [togK] at h
    by_cases h4 : mgE (downR X k) (downR Y k) = 4
    · rw [if_pos h4] at h; simp at h
    rw [if_neg h4] at h
    by_cases h0 : mgE (downR X k) (downR Y k) = 0 ∧ fitsB (mgH (downR X k) (downR Y k)) most = true
    · rw [if_pos h0] at h
      injection h with h _
      subst h
      obtain ⟨g1, g2, g3, g4⟩ := mg_right h0.1 (downR_ok' X k ox) (downR_ok' Y k oy)
      refine ⟨g1, ?_, h0.2, g4⟩
      have ex := down_at hx (k := k) (by omega)
      have ey := down_at hy (k := k) (by omega)
      have tx : (downR X k).total = X.total := by
        have e2 : downE (downR X k) 0 = 0 := downE_mk ex.2.2.1 (by omega) (by have := err_sc ex.2.2.1; omega)
        have := twice_ok X k 0 ex.1 e2
        rw [Int.add_zero] at this
        exact this.2.2.2
      have ty : (downR Y k).total = Y.total := by
        have e2 : downE (downR Y k) 0 = 0 := downE_mk ey.2.2.1 (by omega) (by have := err_sc ey.2.2.1; omega)
        have := twice_ok Y k 0 ey.1 e2
        rw [Int.add_zero] at this
        exact this.2.2.2
      rw [g2, tx, ty]
    · rw [if_neg h0] at h
      exact ih (k + 1) R (by omega) h
theorem togH_right {a b : HistV} {most : Int} {R : HistV} (oa : a.ok) (ob : b.ok) (h : togH a b most = (R, true)) : a.err = 0 ∧ b.err = 0 ∧ R.err = 0 ∧ R.total = a.total + b.total ∧ fitsB R most = true ∧ R.ok := by
  unfold togH at h
  by_cases hl : levE a b = 0
  · rw [if_pos hl] at h
    obtain ⟨r1, r2, r3, r4, r5, r6, r7, r8⟩ := lev_right hl oa ob
    obtain ⟨s1, s2⟩ := lev_sc hl oa ob
    have hsc := err_sc r3
    obtain ⟨t1, t2, t3, t4⟩ := togK_right r3 r4 r5 r6 (by rw [s1, s2]) (togF (levX a b)) 0 R (by unfold togF; omega) h
    exact ⟨r1, r2, t1, by rw [t2, r7, r8], t3, t4⟩
  · rw [if_neg hl] at h
    simp at h
end Go.Proofs.Ytiiibhdohlpodaa

