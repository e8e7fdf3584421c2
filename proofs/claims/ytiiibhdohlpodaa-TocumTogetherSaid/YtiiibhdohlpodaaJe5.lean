/- Texts put together for a seat that lacks some of the functions: E10 E11 E12 (tools/strip.py). -/
import Derived.Test.YtiiibhdohlpodaaOP
import Derived.Test.YtiiibhdohlpodaaOQ
import Derived.Test.YtiiibhdohlpodaaJe4
-- E10
namespace Go.Proofs.Ytiiibhdohlpodaa
open Go.RowKit

def mgE (a b : HistV) : Nat := if levE a b ≠ 0 then levE a b else if 18446744073709551616 ≤ (levX a b).total + (levY a b).total then 4 else if spN (levX a b).po (levX a b).pl (levY a b).po (levY a b).pl ≤ 160 ∧ spN (levX a b).no (levX a b).nl (levY a b).no (levY a b).nl ≤ 160 then 0 else 1
def mgH2 (X Y : HistV) : HistV := ⟨X.sc, X.ze + Y.ze, mgO X.po X.pl Y.po Y.pl, mgR X.po X.pl Y.po Y.pl, mgO X.no X.nl Y.no Y.nl, mgR X.no X.nl Y.no Y.nl⟩
def mgH (a b : HistV) : HistV := if mgE a b = 0 then mgH2 (levX a b) (levY a b) else zeroH
/-- What a call answers that makes a histogram, in new memory. -/
def HistNew (w : World) (R : HistV) (E : Nat) (e : Ending) (w' : World) : Prop :=
  ∃ pv nv, e = .returned (.tuple #[histV R pv nv, .int .i64 (E : Int)]) ∧ Mine w w' 25 pv (uvals R.pl) ∧ Mine w w' 25 nv (uvals R.nl)
theorem HistNew.zero {w w' : World} {E : Nat} (hk : Kept (fun _ => False) w w') : HistNew w zeroH E (.returned (.tuple #[histV zeroH (.slice none 0 0) (.slice none 0 0), .int .i64 (E : Int)])) w' :=
  ⟨_, _, rfl, Mine.nil' _ hk, Mine.nil' _ hk⟩
theorem lev_right {a b : HistV} (h : levE a b = 0) (oka : a.ok) (okb : b.ok) : a.err = 0 ∧ b.err = 0 ∧ (levX a b).err = 0 ∧ (levY a b).err = 0 ∧ (levX a b).ok ∧ (levY a b).ok ∧ (levX a b).total = a.total ∧ (levY a b).total = b.total := by
  have h1 : a.err = 0 := by
    by_cases e : a.err = 0
    · exact e
    · unfold levE at h; rw [if_pos e] at h; exact h
  have h2 : b.err = 0 := by unfold levE at h; rw [if_neg (by omega)] at h; exact h
  obtain ⟨g1, g2, g3, g4, g5⟩ := lev_good h1 h2
  refine ⟨h1, h2, ?_, ?_, ?_, ?_, ?_, ?_⟩
  · rw [g4, downR_ok g2]; have := downE_zero g2; exact downH_err a _ h1 (by omega)
  · rw [g5, downR_ok g3]; have := downE_zero g3; exact downH_err b _ h2 (by omega)
  · rw [g4]; exact downR_ok' a _ oka
  · rw [g5]; exact downR_ok' b _ okb
  · rw [g4, downR_ok g2]; exact downH_total a _
  · rw [g5, downR_ok g3]; exact downH_total b _
theorem trim_exists (o : Int) (l : List Nat) : ∃ o' l', TrimOf o l o' l' := by
  by_cases h : ∃ j, j < l.length ∧ l.getD j 0 ≠ 0
  · obtain ⟨j, hj, hn⟩ := h
    obtain ⟨a, ha, hna, hmin⟩ := least_nat (fun j => l.getD j 0 ≠ 0) j hn
    obtain ⟨k, hk, hnk, hmax⟩ := least_nat (fun k => l.getD (l.length - 1 - k) 0 ≠ 0) (l.length - 1 - j) (by rw [show l.length - 1 - (l.length - 1 - j) = j by omega]; exact hn)
    refine ⟨_, _, .inr ⟨a, l.length - k, ?_, by omega, fun i hi => Decidable.of_not_not (hmin i hi), fun i h1 h2 => ?_, hna, ?_, rfl, rfl⟩⟩
    · by_cases e : a < l.length - k
      · exact e
      · have hz := hmin (l.length - 1 - k) (by omega)
        exact absurd hnk hz
    · have := hmax (l.length - 1 - i) (by omega)
      rw [show l.length - 1 - (l.length - 1 - i) = i by omega] at this
      exact Decidable.of_not_not this
    · rw [show l.length - k - 1 = l.length - 1 - k by omega]; exact hnk
  · exact ⟨_, _, .inl ⟨fun j hj => Decidable.of_not_not fun hn => h ⟨j, hj, hn⟩, rfl, rfl⟩⟩
theorem sub_exists (o1 : Int) (l1 : List Nat) (o2 : Int) (l2 : List Nat) : ∃ ok o l, SubRes o1 l1 o2 l2 ok o l := by
  by_cases h : hasS o1 l1 o2 l2
  · obtain ⟨o, l, t⟩ := trim_exists o1 (lsL o1 l1 o2 l2)
    exact ⟨_, _, _, .inl ⟨rfl, h, t⟩⟩
  · exact ⟨_, _, _, .inr ⟨rfl, h, rfl, rfl⟩⟩
/-- What Sub answers. -/
def SubH (a b R : HistV) (E : Nat) : Prop :=
  (levE a b ≠ 0 ∧ E = levE a b ∧ R = zeroH) ∨
  (levE a b = 0 ∧ ∃ k1 o1 l1 k2 o2 l2, SubRes (levX a b).po (levX a b).pl (levY a b).po (levY a b).pl k1 o1 l1 ∧ SubRes (levX a b).no (levX a b).nl (levY a b).no (levY a b).nl k2 o2 l2 ∧
    ((k1 = true ∧ k2 = true ∧ (levY a b).ze ≤ (levX a b).ze ∧ E = 0 ∧ R = ⟨(levX a b).sc, (levX a b).ze - (levY a b).ze, o1, l1, o2, l2⟩) ∨ ((k1 = false ∨ k2 = false ∨ (levX a b).ze < (levY a b).ze) ∧ E = 7 ∧ R = zeroH)))
theorem SubH.uniq {a b R R' : HistV} {E E' : Nat} (h : SubH a b R E) (h' : SubH a b R' E') : R = R' ∧ E = E' := by
  rcases h with ⟨c, rfl, rfl⟩ | ⟨c, k1, o1, l1, k2, o2, l2, s1, s2, h⟩ <;> rcases h' with ⟨c', rfl, rfl⟩ | ⟨c', j1, p1, m1, j2, p2, m2, t1, t2, h'⟩
  · exact ⟨rfl, rfl⟩
  · exact absurd c' c
  · exact absurd c c'
  · obtain ⟨rfl, rfl, rfl⟩ := s1.uniq t1
    obtain ⟨rfl, rfl, rfl⟩ := s2.uniq t2
    rcases h with ⟨x1, x2, x3, rfl, rfl⟩ | ⟨x, rfl, rfl⟩ <;> rcases h' with ⟨y1, y2, y3, rfl, rfl⟩ | ⟨y, rfl, rfl⟩
    · exact ⟨rfl, rfl⟩
    · rcases y with y | y | y
      · rw [x1] at y; cases y
      · rw [x2] at y; cases y
      · omega
    · rcases x with x | x | x
      · rw [y1] at x; cases x
      · rw [y2] at x; cases x
      · omega
    · exact ⟨rfl, rfl⟩
theorem HistIn.on {w w' : World} {h : HistV} {pv nv : Value} (a : HistIn w h pv nv) (k : Kept (fun _ => False) w w') : HistIn w' h pv nv := ⟨a.at_.on k, a.ok, a.cp, a.cn⟩
/-- Three boxes: two histograms that came in, and one to answer. -/
structure HB3 (w wr : World) (a b r : HistV) (ap an bp bn rp rn : Value) : Prop where
  a : HistBox wr w.heap.size a ap an
  b : HistBox wr (w.heap.size + 1) b bp bn
  r : HistBox wr (w.heap.size + 1 + 1) r rp rn
theorem HB3.on {w wr w' : World} {a b r : HistV} {ap an bp bn rp rn : Value} (h : HB3 w wr a b r ap an bp bn rp rn) (k : Kept (fun _ => False) wr w') : HB3 w w' a b r ap an bp bn rp rn := ⟨h.a.same k (fun x => x), h.b.same k (fun x => x), h.r.same k (fun x => x)⟩
theorem HB3.mk0 (w : World) (a b : HistV) (ap an bp bn : Value) : HB3 w (((w.alloc (.cells #[.int .i64 a.sc, .int .u64 (a.ze : Int), .int .i64 a.po, ap, .int .i64 a.no, an] 30)).alloc (.cells #[.int .i64 b.sc, .int .u64 (b.ze : Int), .int .i64 b.po, bp, .int .i64 b.no, bn] 30)).alloc (.cells #[.int .i64 0, .int .u64 0, .int .i64 0, .slice none 0 0, .int .i64 0, .slice none 0 0] 30)) a b zeroH ap an bp bn (.slice none 0 0) (.slice none 0 0) := by
  have k := fun (w : World) o => (Kept.refl (fun _ => False) w).alloc o
  refine ⟨?_, ?_, ?_⟩
  · exact ((hist_boxed w a ap an).same (k _ _) (fun x => x)).same (k _ _) (fun x => x)
  · have := hist_boxed (w.alloc (.cells #[.int .i64 a.sc, .int .u64 (a.ze : Int), .int .i64 a.po, ap, .int .i64 a.no, an] 30)) b bp bn
    rw [show (w.alloc (.cells #[.int .i64 a.sc, .int .u64 (a.ze : Int), .int .i64 a.po, ap, .int .i64 a.no, an] 30)).heap.size = w.heap.size + 1 by simp] at this
    exact this.same (k _ _) (fun x => x)
  · have := hist_alloc ((w.alloc (.cells #[.int .i64 a.sc, .int .u64 (a.ze : Int), .int .i64 a.po, ap, .int .i64 a.no, an] 30)).alloc (.cells #[.int .i64 b.sc, .int .u64 (b.ze : Int), .int .i64 b.po, bp, .int .i64 b.no, bn] 30))
    rw [show ((w.alloc (.cells #[.int .i64 a.sc, .int .u64 (a.ze : Int), .int .i64 a.po, ap, .int .i64 a.no, an] 30)).alloc (.cells #[.int .i64 b.sc, .int .u64 (b.ze : Int), .int .i64 b.po, bp, .int .i64 b.no, bn] 30)).heap.size = w.heap.size + 1 + 1 by simp] at this
    exact this
/-- A pair of histograms in new memory. -/
structure Two2 (w wr : World) (X Y : HistV) (p1 n1 p2 n2 : Value) : Prop where
  p1 : Mine w wr 25 p1 (uvals X.pl)
  n1 : Mine w wr 25 n1 (uvals X.nl)
  p2 : Mine w wr 25 p2 (uvals Y.pl)
  n2 : Mine w wr 25 n2 (uvals Y.nl)
theorem Two2.on {w wr w' : World} {X Y : HistV} {p1 n1 p2 n2 : Value} (h : Two2 w wr X Y p1 n1 p2 n2) (k : Kept (fun _ => False) wr w') : Two2 w w' X Y p1 n1 p2 n2 := ⟨h.p1.on k, h.n1.on k, h.p2.on k, h.n2.on k⟩
theorem Two2.down {W w wr : World} {X Y : HistV} {p1 n1 p2 n2 : Value} (h : Two2 w wr X Y p1 n1 p2 n2) (k : Kept (fun _ => False) W w) : Two2 W wr X Y p1 n1 p2 n2 := ⟨h.p1.down k, h.n1.down k, h.p2.down k, h.n2.down k⟩
theorem Two2.atX {w wr : World} {X Y : HistV} {p1 n1 p2 n2 : Value} (h : Two2 w wr X Y p1 n1 p2 n2) : HistAt wr X p1 n1 := ⟨h.p1.at_, h.n1.at_⟩
theorem Two2.atY {w wr : World} {X Y : HistV} {p1 n1 p2 n2 : Value} (h : Two2 w wr X Y p1 n1 p2 n2) : HistAt wr Y p2 n2 := ⟨h.p2.at_, h.n2.at_⟩
theorem pair_boxed (w : World) (X Y : HistV) (p1 n1 p2 n2 : Value) (E : Nat) : PairBox (w.alloc (.cells #[.int .i64 X.sc, .int .u64 (X.ze : Int), .int .i64 X.po, p1, .int .i64 X.no, n1, .int .i64 Y.sc, .int .u64 (Y.ze : Int), .int .i64 Y.po, p2, .int .i64 Y.no, n2, .int .i64 (E : Int)] 89)) w.heap.size X Y p1 n1 p2 n2 E := heap_alloc_new w _
theorem side_boxed (w : World) (o : Int) (v : Value) : SideBox (w.alloc (.cells #[.int .i64 o, v] 28)) w.heap.size o v := heap_alloc_new w _
theorem SideTry.down {W w : World} {ok : Bool} {o : Int} {l : List Nat} {e : Ending} {w' : World} (h : SideTry w w ok o l e w') (hk : Kept (fun _ => False) W w) : SideTry W w ok o l e w' := by
  obtain ⟨v, rfl, hm, k⟩ := h
  exact ⟨v, rfl, hm.down hk, k⟩
/-- SubOut's answer, known ahead. -/
theorem SubOut.try_ {W w : World} {o1 o2 o : Int} {l1 l2 l : List Nat} {ok : Bool} {e : Ending} {w' : World} (hs : SubRes o1 l1 o2 l2 ok o l) (hk : Kept (fun _ => False) W w) (h : SubOut w (SubRes o1 l1 o2 l2) e w') : SideTry W w ok o l e w' := by
  obtain ⟨k, o', l', v, hr, rfl, hm⟩ := h
  obtain ⟨rfl, rfl, rfl⟩ := hs.uniq hr
  exact ⟨v, rfl, hm.down hk, hm.kept⟩
end Go.Proofs.Ytiiibhdohlpodaa

-- E11
namespace Go.Proofs.Ytiiibhdohlpodaa
open Go.RowKit
attribute [local go_sem ↓] Go.wp_at_zero Go.wp_at_succ

set_option maxHeartbeats 4000000 in
set_option maxRecDepth 100000 in
theorem foldMerge_any (a b : HistV) (ap an bp bn : Value) (w : World) (ha : HistIn w a ap an) (hb : HistIn w b bp bn) (la1 : a.pl.length ≤ 1000000) (la2 : a.nl.length ≤ 1000000) (lb1 : b.pl.length ≤ 1000000) (lb2 : b.nl.length ≤ 1000000) :
    Calls Try.prog 17 #[histV a ap an, histV b bp bn] w (HistNew w (mgH a b) (mgE a b)) := by
  obtain ⟨⟨ao, c, rfl⟩, a1, c1, rfl⟩ := ha.at_.sl
  obtain ⟨⟨bo, d, rfl⟩, b1, d1, rfl⟩ := hb.at_.sl
  have hlb := HB3.mk0 w a b (.slice ao a.pl.length c) (.slice a1 a.nl.length c1) (.slice bo b.pl.length d) (.slice b1 b.nl.length d1)
  obtain ⟨w0, hw0⟩ : ∃ w0, w0 = (((w.alloc (.cells #[.int .i64 a.sc, .int .u64 (a.ze : Int), .int .i64 a.po, .slice ao a.pl.length c, .int .i64 a.no, .slice a1 a.nl.length c1] 30)).alloc (.cells #[.int .i64 b.sc, .int .u64 (b.ze : Int), .int .i64 b.po, .slice bo b.pl.length d, .int .i64 b.no, .slice b1 b.nl.length d1] 30)).alloc (.cells #[.int .i64 0, .int .u64 0, .int .i64 0, .slice none 0 0, .int .i64 0, .slice none 0 0] 30)) := ⟨_, rfl⟩
  rw [← hw0] at hlb
  have k0 : Kept (fun _ => False) w w0 := by rw [hw0]; exact (((Kept.refl _ w).alloc _).alloc _).alloc _
  have HK0 := Lib.hid k0
  have HB0 := Lib.hid hlb
  have hlv := foldLevel_any a b _ _ _ _ w0 (ha.at_.on k0) (hb.at_.on k0) ha.ok hb.ok la1 la2 lb1 lb2
  have hbad := lev_bad (a := a) (b := b)
  have hright := fun h => lev_right (a := a) (b := b) h ha.ok hb.ok
  have HW0 := Lib.hid hw0
  have hE : mgE a b = if levE a b ≠ 0 then levE a b else if 18446744073709551616 ≤ (levX a b).total + (levY a b).total then 4 else if spN (levX a b).po (levX a b).pl (levY a b).po (levY a b).pl ≤ 160 ∧ spN (levX a b).no (levX a b).nl (levY a b).no (levY a b).nl ≤ 160 then 0 else 1 := rfl
  have hR : mgH a b = if mgE a b = 0 then mgH2 (levX a b) (levY a b) else zeroH := rfl
  rw [hR]
  obtain ⟨EE, hEE⟩ : ∃ E, E = mgE a b := ⟨_, rfl⟩
  rw [← hEE] at hE ⊢
  clear hR hEE
  obtain ⟨X, hX⟩ : ∃ X, X = levX a b := ⟨_, rfl⟩
  obtain ⟨Y, hY⟩ : ∃ Y, Y = levY a b := ⟨_, rfl⟩
  obtain ⟨EL, hEL⟩ : ∃ E, E = levE a b := ⟨_, rfl⟩
  rw [← hX, ← hY] at hlv hbad hright hE ⊢
  rw [← hEL] at hlv hbad hright hE
  have HLV := Lib.hid hlv
  by_cases hz : EL = 0
  · have qE : ((EL : Int) != 0) = false := bneF (by omega)
    obtain ⟨_, _, ex, ey, okx, oky, _, _⟩ := hright hz
    obtain ⟨⟨sx1, sx2⟩, hx1, hx2, hx3⟩ := err_light ex
    obtain ⟨_, hy1, hy2, hy3⟩ := err_light ey
    obtain ⟨sx3, sx4⟩ := side_range hx1
    obtain ⟨sx5, sx6⟩ := side_range hx2
    obtain ⟨sy3, sy4⟩ := side_range hy1
    obtain ⟨sy5, sy6⟩ := side_range hy2
    obtain ⟨tx1, tx2⟩ := total_parts hx3
    obtain ⟨ty1, ty2⟩ := total_parts hy3
    have zx := okx.ze
    have zy := oky.ze
    have HT1 := Lib.hid fun w' pv nv (k : HistAt w' X pv nv) => histTotal_any X pv nv w' k okx.ze (by omega) (by omega) okx.pl okx.nl
    have HT2 := Lib.hid fun w' pv nv (k : HistAt w' Y pv nv) => histTotal_any Y pv nv w' k oky.ze (by omega) (by omega) oky.pl oky.nl
    have e1 : totV X = .tuple #[.int .u64 (X.total : Int), .bool true] := by unfold totV; rw [if_pos hx3, decide_eq_true hx3]
    have e2 : totV Y = .tuple #[.int .u64 (Y.total : Int), .bool true] := by unfold totV; rw [if_pos hy3, decide_eq_true hy3]
    rw [e1] at HT1
    rw [e2] at HT2
    clear e1 e2
    have tsx : X.ze + X.pl.sum + X.nl.sum = X.total := by unfold HistV.total sumN; rfl
    have tsy : Y.ze + Y.pl.sum + Y.nl.sum = Y.total := by unfold HistV.total sumN; rfl
    obtain ⟨TX, hTX⟩ : ∃ T, T = X.total := ⟨_, rfl⟩
    obtain ⟨TY, hTY⟩ : ∃ T, T = Y.total := ⟨_, rfl⟩
    rw [← hTX] at HT1 hE tsx hx3
    rw [← hTY] at HT2 hE tsy hy3
    obtain ⟨Z, hZ⟩ : ∃ Z : Nat, Z = 18446744073709551615 - TY := ⟨_, rfl⟩
    have d1 : IntKind.u64.wrap (18446744073709551615 - (TY : Int)) = (Z : Int) := by rw [IntKind.wrap_u64]; omega
    have d2 : (18446744073709551615 : Int) - (TY : Int) = (Z : Int) := by omega
    have d3 : IntKind.u64.wrap (Z : Int) = (Z : Int) := by rw [IntKind.wrap_u64]; omega
    by_cases hbig : Z < TX
    · have qb : (Z : Int) < (TX : Int) := by omega
      rw [if_neg (by omega), if_pos (by omega)] at hE
      have HBADS : Hid (∀ w', Kept (fun _ => False) w w' → HistNew w (if EE = 0 then mgH2 X Y else zeroH) EE (.returned (.tuple #[histV zeroH (.slice none 0 0) (.slice none 0 0), .int .i64 4])) w') := Lib.hid fun w' k => by rw [if_neg (by omega), hE]; exact HistNew.zero k
      obtain ⟨RR, hRR⟩ : ∃ R, R = if EE = 0 then mgH2 X Y else zeroH := ⟨_, rfl⟩
      rw [← hRR] at HBADS ⊢
      clear hX hY hEL hlb k0 hw0 hlv hbad hright ha hb la1 la2 lb1 lb2 hE hz ex ey okx oky sx1 sx2 hx1 hx2 hx3 hy1 hy2 hy3 sx3 sx4 sx5 sx6 sy3 sy4 sy5 sy6 tx1 tx2 ty1 ty2 zx zy hRR hTX hTY hZ hbig tsx tsy
      obtain ⟨asc, aze, apo, apl, ano, anl⟩ := a
      obtain ⟨bsc, bze, bpo, bpl, bno, bnl⟩ := b
      unfold histV at HLV ⊢
      simp only at HLV HW0 ⊢
      go_enter Try.func17, Try.ntmps17
      go_upto_region 1 with fail
      rw [← HW0.out]
      obtain ⟨v0, v1, v2, v3, v4, v5⟩ := HB0.out.a.c
      obtain ⟨u0, u1, u2, u3, u4, u5⟩ := HB0.out.b.c
      go_wp2_with fail
      refine (HLV.out).mono ?_
      rintro e w1 ⟨p1, n1, p2, n2, rfl, m1, m2, m3, m4⟩
      obtain ⟨p1, q1, rfl⟩ := m1.slice
      obtain ⟨n1, r1, rfl⟩ := m2.slice
      obtain ⟨p2, q2, rfl⟩ := m3.slice
      obtain ⟨n2, r2, rfl⟩ := m4.slice
      unfold histV
      dsimp only
      have hk1 := (m1.kept.alloc (.cells #[.int .i64 X.sc, .int .u64 (X.ze : Int), .int .i64 X.po, .slice p1 (uvals X.pl).length q1, .int .i64 X.no, .slice n1 (uvals X.nl).length r1] 30)).alloc (.cells #[.int .i64 Y.sc, .int .u64 (Y.ze : Int), .int .i64 Y.po, .slice p2 (uvals Y.pl).length q2, .int .i64 Y.no, .slice n2 (uvals Y.nl).length r2] 30)
      have ha1 := (Kept.refl (fun _ => False) w1).alloc (.cells #[.int .i64 X.sc, .int .u64 (X.ze : Int), .int .i64 X.po, .slice p1 (uvals X.pl).length q1, .int .i64 X.no, .slice n1 (uvals X.nl).length r1] 30)
      have ha2 := (Kept.refl (fun _ => False) (w1.alloc (.cells #[.int .i64 X.sc, .int .u64 (X.ze : Int), .int .i64 X.po, .slice p1 (uvals X.pl).length q1, .int .i64 X.no, .slice n1 (uvals X.nl).length r1] 30))).alloc (.cells #[.int .i64 Y.sc, .int .u64 (Y.ze : Int), .int .i64 Y.po, .slice p2 (uvals Y.pl).length q2, .int .i64 Y.no, .slice n2 (uvals Y.nl).length r2] 30)
      obtain ⟨ws, hws⟩ : ∃ ws, ws = (w1.alloc (.cells #[.int .i64 X.sc, .int .u64 (X.ze : Int), .int .i64 X.po, .slice p1 (uvals X.pl).length q1, .int .i64 X.no, .slice n1 (uvals X.nl).length r1] 30)).alloc (.cells #[.int .i64 Y.sc, .int .u64 (Y.ze : Int), .int .i64 Y.po, .slice p2 (uvals Y.pl).length q2, .int .i64 Y.no, .slice n2 (uvals Y.nl).length r2] 30) := ⟨_, rfl⟩
      have hxb := (hist_boxed w1 X (.slice p1 (uvals X.pl).length q1) (.slice n1 (uvals X.nl).length r1)).same ha2 (fun x => x)
      have hyb := hist_boxed (w1.alloc (.cells #[.int .i64 X.sc, .int .u64 (X.ze : Int), .int .i64 X.po, .slice p1 (uvals X.pl).length q1, .int .i64 X.no, .slice n1 (uvals X.nl).length r1] 30)) Y (.slice p2 (uvals Y.pl).length q2) (.slice n2 (uvals Y.nl).length r2)
      rw [show (w1.alloc (.cells #[.int .i64 X.sc, .int .u64 (X.ze : Int), .int .i64 X.po, .slice p1 (uvals X.pl).length q1, .int .i64 X.no, .slice n1 (uvals X.nl).length r1] 30)).heap.size = w1.heap.size + 1 by simp] at hyb
      have htw := (Two2.mk m1 m2 m3 m4).on (ha1.trans ha2)
      rw [← hws] at hk1 hxb hyb htw
      have HXB := Lib.hid hxb
      have HYB := Lib.hid hyb
      have HTW := Lib.hid htw
      have HK1 := Lib.hid hk1
      have HBX := Lib.hid (HB0.out.on hk1)
      have HWS := Lib.hid hws
      clear m1 m2 m3 m4 hk1 htw hws v0 v1 v2 v3 v4 v5 u0 u1 u2 u3 u4 u5 hxb hyb ha1 ha2
      go_upto_region 2 with fail
      rw [← HWS.out]
      obtain ⟨x0, x1, x2, x3, x4, x5⟩ := HXB.out.c
      obtain ⟨y0, y1, y2, y3, y4, y5⟩ := HYB.out.c
      go_wp2_with fail
      refine (HT1.out _ _ _ HTW.out.atX).mono ?_
      rintro e w2 ⟨rfl, k2⟩
      have HS2 := Lib.hid k2
      clear k2
      have HBX := Lib.hid (HBX.out.on HS2.out)
      have HTW := Lib.hid (HTW.out.on HS2.out)
      have HXB := Lib.hid (HXB.out.same HS2.out (fun x => x))
      have HYB := Lib.hid (HYB.out.same HS2.out (fun x => x))
      clear x0 x1 x2 x3 x4 x5 y0 y1 y2 y3 y4 y5
      obtain ⟨x0, x1, x2, x3, x4, x5⟩ := HXB.out.c
      obtain ⟨y0, y1, y2, y3, y4, y5⟩ := HYB.out.c
      go_wp2_with fail
      refine (HT2.out _ _ _ HTW.out.atY).mono ?_
      rintro e w3 ⟨rfl, k3⟩
      have HS3 := Lib.hid k3
      clear k3
      have HBX := Lib.hid (HBX.out.on HS3.out)
      have HTW := Lib.hid (HTW.out.on HS3.out)
      have HXB := Lib.hid (HXB.out.same HS3.out (fun x => x))
      have HYB := Lib.hid (HYB.out.same HS3.out (fun x => x))
      clear x0 x1 x2 x3 x4 x5 y0 y1 y2 y3 y4 y5
      obtain ⟨s0, s1, s2, s3, s4, s5⟩ := HBX.out.r.c
      obtain ⟨g0, g1, g2, g3, g4, g5⟩ := HBX.out.r.f
      go_wp2
      refine hist_end (h := zeroH) (pv := .slice none 0 0) (nv := .slice none 0 0) Try.results17 rfl rfl rfl (HBX.out.r.set zeroH (.slice none 0 0) (.slice none 0 0)) ?_
      exact HBADS.out _ ((HK0.out.trans HTW.out.p1.kept).newer (set6_kept _ _ _ _ _ _ _ _) (fun i e => by omega))
    · have qb : ¬ (Z : Int) < (TX : Int) := by omega
      rw [if_neg (by omega), if_neg (by omega)] at hE
      have HC1 := Lib.hid (fun w' {p1 n1 p2 n2 : Value} (t : Two2 w0 w' X Y p1 n1 p2 n2) => foldMerge1_any X.po X.pl Y.po Y.pl _ _ w0 w' t.p1 t.p2 hx1 hy1 (by omega))
      have HC2 := Lib.hid (fun w' {p1 n1 p2 n2 : Value} (t : Two2 w0 w' X Y p1 n1 p2 n2) => foldMerge1_any X.no X.nl Y.no Y.nl _ _ w0 w' t.n1 t.n2 hx2 hy2 (by omega))
      obtain ⟨N1, hN1⟩ : ∃ N, N = spN X.po X.pl Y.po Y.pl := ⟨_, rfl⟩
      obtain ⟨N2, hN2⟩ : ∃ N, N = spN X.no X.nl Y.no Y.nl := ⟨_, rfl⟩
      rw [← hN1, ← hN2] at hE
      have hk1 : mgOk X.po X.pl Y.po Y.pl = decide (N1 ≤ 160) := by rw [hN1]; rfl
      have hk2 : mgOk X.no X.nl Y.no Y.nl = decide (N2 ≤ 160) := by rw [hN2]; rfl
      have hmr : mgH2 X Y = ⟨X.sc, X.ze + Y.ze, mgO X.po X.pl Y.po Y.pl, mgR X.po X.pl Y.po Y.pl, mgO X.no X.nl Y.no Y.nl, mgR X.no X.nl Y.no Y.nl⟩ := rfl
      rw [hmr]
      rw [hk1] at HC1
      rw [hk2] at HC2
      obtain ⟨O1, hO1⟩ : ∃ O, O = mgO X.po X.pl Y.po Y.pl := ⟨_, rfl⟩
      obtain ⟨L1, hL1⟩ : ∃ O, O = mgR X.po X.pl Y.po Y.pl := ⟨_, rfl⟩
      obtain ⟨O2, hO2⟩ : ∃ O, O = mgO X.no X.nl Y.no Y.nl := ⟨_, rfl⟩
      obtain ⟨L2, hL2⟩ : ∃ O, O = mgR X.no X.nl Y.no Y.nl := ⟨_, rfl⟩
      rw [← hO1, ← hL1] at HC1
      rw [← hO2, ← hL2] at HC2
      rw [← hO1, ← hL1, ← hO2, ← hL2]
      clear hk1 hk2 hmr hO1 hO2 hL1 hL2
      obtain ⟨ZE, hZE⟩ : ∃ Z, Z = X.ze + Y.ze := ⟨_, rfl⟩
      rw [← hZE]
      have u1 : IntKind.u64.wrap ((X.ze : Int) + (Y.ze : Int)) = (ZE : Int) := by rw [IntKind.wrap_u64]; omega
      have u2 : (X.ze : Int) + (Y.ze : Int) = (ZE : Int) := by omega
      have u3 : IntKind.u64.wrap (ZE : Int) = (ZE : Int) := by rw [IntKind.wrap_u64]; omega
      obtain ⟨RR, hRR⟩ : ∃ R, R = if EE = 0 then (⟨X.sc, ZE, O1, L1, O2, L2⟩ : HistV) else zeroH := ⟨_, rfl⟩
      rw [← hRR]
      by_cases hs : N1 ≤ 160 ∧ N2 ≤ 160
      · rw [if_pos hs] at hE
        rw [if_pos hE] at hRR
        rw [decide_eq_true hs.1] at HC1
        rw [decide_eq_true hs.2] at HC2
        have HGOOD : Hid (∀ w' pv nv, Mine w w' 25 pv (uvals L1) → Mine w w' 25 nv (uvals L2) → HistNew w RR EE (.returned (.tuple #[histV ⟨X.sc, ZE, O1, L1, O2, L2⟩ pv nv, .int .i64 0])) w') := Lib.hid fun w' pv nv h1 h2 => by rw [hRR, hE]; exact ⟨pv, nv, rfl, h1, h2⟩
        clear hX hY hEL hlb k0 hw0 hlv hbad hright ha hb la1 la2 lb1 lb2 hE hz ex ey okx oky sx1 sx2 hx1 hx2 hx3 hy1 hy2 hy3 sx3 sx4 sx5 sx6 sy3 sy4 sy5 sy6 tx1 tx2 ty1 ty2 zx zy hTX hTY hZ hbig tsx tsy hN1 hN2 hZE hRR hs
        obtain ⟨asc, aze, apo, apl, ano, anl⟩ := a
        obtain ⟨bsc, bze, bpo, bpl, bno, bnl⟩ := b
        unfold histV at HLV ⊢
        simp only at HLV HW0 ⊢
        go_enter Try.func17, Try.ntmps17
        go_upto_region 1 with fail
        rw [← HW0.out]
        obtain ⟨v0, v1, v2, v3, v4, v5⟩ := HB0.out.a.c
        obtain ⟨u0, u1, u2, u3, u4, u5⟩ := HB0.out.b.c
        go_wp2_with fail
        refine (HLV.out).mono ?_
        rintro e w1 ⟨p1, n1, p2, n2, rfl, m1, m2, m3, m4⟩
        obtain ⟨p1, q1, rfl⟩ := m1.slice
        obtain ⟨n1, r1, rfl⟩ := m2.slice
        obtain ⟨p2, q2, rfl⟩ := m3.slice
        obtain ⟨n2, r2, rfl⟩ := m4.slice
        unfold histV
        dsimp only
        have hk1 := (m1.kept.alloc (.cells #[.int .i64 X.sc, .int .u64 (X.ze : Int), .int .i64 X.po, .slice p1 (uvals X.pl).length q1, .int .i64 X.no, .slice n1 (uvals X.nl).length r1] 30)).alloc (.cells #[.int .i64 Y.sc, .int .u64 (Y.ze : Int), .int .i64 Y.po, .slice p2 (uvals Y.pl).length q2, .int .i64 Y.no, .slice n2 (uvals Y.nl).length r2] 30)
        have ha1 := (Kept.refl (fun _ => False) w1).alloc (.cells #[.int .i64 X.sc, .int .u64 (X.ze : Int), .int .i64 X.po, .slice p1 (uvals X.pl).length q1, .int .i64 X.no, .slice n1 (uvals X.nl).length r1] 30)
        have ha2 := (Kept.refl (fun _ => False) (w1.alloc (.cells #[.int .i64 X.sc, .int .u64 (X.ze : Int), .int .i64 X.po, .slice p1 (uvals X.pl).length q1, .int .i64 X.no, .slice n1 (uvals X.nl).length r1] 30))).alloc (.cells #[.int .i64 Y.sc, .int .u64 (Y.ze : Int), .int .i64 Y.po, .slice p2 (uvals Y.pl).length q2, .int .i64 Y.no, .slice n2 (uvals Y.nl).length r2] 30)
        obtain ⟨ws, hws⟩ : ∃ ws, ws = (w1.alloc (.cells #[.int .i64 X.sc, .int .u64 (X.ze : Int), .int .i64 X.po, .slice p1 (uvals X.pl).length q1, .int .i64 X.no, .slice n1 (uvals X.nl).length r1] 30)).alloc (.cells #[.int .i64 Y.sc, .int .u64 (Y.ze : Int), .int .i64 Y.po, .slice p2 (uvals Y.pl).length q2, .int .i64 Y.no, .slice n2 (uvals Y.nl).length r2] 30) := ⟨_, rfl⟩
        have hxb := (hist_boxed w1 X (.slice p1 (uvals X.pl).length q1) (.slice n1 (uvals X.nl).length r1)).same ha2 (fun x => x)
        have hyb := hist_boxed (w1.alloc (.cells #[.int .i64 X.sc, .int .u64 (X.ze : Int), .int .i64 X.po, .slice p1 (uvals X.pl).length q1, .int .i64 X.no, .slice n1 (uvals X.nl).length r1] 30)) Y (.slice p2 (uvals Y.pl).length q2) (.slice n2 (uvals Y.nl).length r2)
        rw [show (w1.alloc (.cells #[.int .i64 X.sc, .int .u64 (X.ze : Int), .int .i64 X.po, .slice p1 (uvals X.pl).length q1, .int .i64 X.no, .slice n1 (uvals X.nl).length r1] 30)).heap.size = w1.heap.size + 1 by simp] at hyb
        have htw := (Two2.mk m1 m2 m3 m4).on (ha1.trans ha2)
        rw [← hws] at hk1 hxb hyb htw
        have HXB := Lib.hid hxb
        have HYB := Lib.hid hyb
        have HTW := Lib.hid htw
        have HK1 := Lib.hid hk1
        have HBX := Lib.hid (HB0.out.on hk1)
        have HWS := Lib.hid hws
        clear m1 m2 m3 m4 hk1 htw hws v0 v1 v2 v3 v4 v5 u0 u1 u2 u3 u4 u5 hxb hyb ha1 ha2
        go_upto_region 2 with fail
        rw [← HWS.out]
        obtain ⟨x0, x1, x2, x3, x4, x5⟩ := HXB.out.c
        obtain ⟨y0, y1, y2, y3, y4, y5⟩ := HYB.out.c
        go_wp2_with fail
        refine (HT1.out _ _ _ HTW.out.atX).mono ?_
        rintro e w2 ⟨rfl, k2⟩
        have HS2 := Lib.hid k2
        clear k2
        have HBX := Lib.hid (HBX.out.on HS2.out)
        have HTW := Lib.hid (HTW.out.on HS2.out)
        have HXB := Lib.hid (HXB.out.same HS2.out (fun x => x))
        have HYB := Lib.hid (HYB.out.same HS2.out (fun x => x))
        clear x0 x1 x2 x3 x4 x5 y0 y1 y2 y3 y4 y5
        obtain ⟨x0, x1, x2, x3, x4, x5⟩ := HXB.out.c
        obtain ⟨y0, y1, y2, y3, y4, y5⟩ := HYB.out.c
        go_wp2_with fail
        refine (HT2.out _ _ _ HTW.out.atY).mono ?_
        rintro e w3 ⟨rfl, k3⟩
        have HS3 := Lib.hid k3
        clear k3
        have HBX := Lib.hid (HBX.out.on HS3.out)
        have HTW := Lib.hid (HTW.out.on HS3.out)
        have HXB := Lib.hid (HXB.out.same HS3.out (fun x => x))
        have HYB := Lib.hid (HYB.out.same HS3.out (fun x => x))
        clear x0 x1 x2 x3 x4 x5 y0 y1 y2 y3 y4 y5
        obtain ⟨x0, x1, x2, x3, x4, x5⟩ := HXB.out.c
        obtain ⟨y0, y1, y2, y3, y4, y5⟩ := HYB.out.c
        go_wp2_with fail
        refine (HC1.out _ HTW.out).mono ?_
        rintro e w4 ⟨v4, rfl, m4, k4⟩
        obtain ⟨a4, q4, rfl⟩ := m4.slice
        have hs4 := k4.alloc (.cells #[.int .i64 O1, .slice a4 (uvals L1).length q4] 28)
        have hm4 := m4.on ((Kept.refl (fun _ => False) w4).alloc (.cells #[.int .i64 O1, .slice a4 (uvals L1).length q4] 28))
        have hb4 := side_boxed w4 O1 (.slice a4 (uvals L1).length q4)
        obtain ⟨wx4, hwx4⟩ : ∃ w', w' = w4.alloc (.cells #[.int .i64 O1, .slice a4 (uvals L1).length q4] 28) := ⟨_, rfl⟩
        rw [← hwx4] at hs4 hm4 hb4
        have HS4 := Lib.hid hs4
        have HM4 := Lib.hid hm4
        have HSB4 := Lib.hid hb4
        have HWX4 := Lib.hid hwx4
        clear k4 m4 hs4 hm4 hb4 hwx4
        have HBX := Lib.hid (HBX.out.on HS4.out)
        have HTW := Lib.hid (HTW.out.on HS4.out)
        have HXB := Lib.hid (HXB.out.same HS4.out (fun x => x))
        have HYB := Lib.hid (HYB.out.same HS4.out (fun x => x))
        clear x0 x1 x2 x3 x4 x5 y0 y1 y2 y3 y4 y5
        go_upto_region 9 with fail
        rw [← HWX4.out]
        obtain ⟨x0, x1, x2, x3, x4, x5⟩ := HXB.out.c
        obtain ⟨y0, y1, y2, y3, y4, y5⟩ := HYB.out.c
        go_wp2_with fail
        refine (HC2.out _ HTW.out).mono ?_
        rintro e w5 ⟨v5, rfl, m5, k5⟩
        obtain ⟨a5, q5, rfl⟩ := m5.slice
        have hs5 := k5.alloc (.cells #[.int .i64 O2, .slice a5 (uvals L2).length q5] 28)
        have hm5 := m5.on ((Kept.refl (fun _ => False) w5).alloc (.cells #[.int .i64 O2, .slice a5 (uvals L2).length q5] 28))
        have hb5 := side_boxed w5 O2 (.slice a5 (uvals L2).length q5)
        obtain ⟨wx5, hwx5⟩ : ∃ w', w' = w5.alloc (.cells #[.int .i64 O2, .slice a5 (uvals L2).length q5] 28) := ⟨_, rfl⟩
        rw [← hwx5] at hs5 hm5 hb5
        have HS5 := Lib.hid hs5
        have HM5 := Lib.hid hm5
        have HSB5 := Lib.hid hb5
        have HWX5 := Lib.hid hwx5
        clear k5 m5 hs5 hm5 hb5 hwx5
        have HBX := Lib.hid (HBX.out.on HS5.out)
        have HTW := Lib.hid (HTW.out.on HS5.out)
        have HXB := Lib.hid (HXB.out.same HS5.out (fun x => x))
        have HYB := Lib.hid (HYB.out.same HS5.out (fun x => x))
        have HM4 := Lib.hid (HM4.out.on HS5.out)
        have HSB4 := Lib.hid (HSB4.out.same HS5.out (fun x => x))
        clear x0 x1 x2 x3 x4 x5 y0 y1 y2 y3 y4 y5
        go_upto_region 10 with fail
        rw [← HWX5.out]
        obtain ⟨x0, x1, x2, x3, x4, x5⟩ := HXB.out.c
        obtain ⟨y0, y1, y2, y3, y4, y5⟩ := HYB.out.c
        obtain ⟨⟨b40, b41⟩, _⟩ := HSB4.out.c
        obtain ⟨⟨b50, b51⟩, _⟩ := HSB5.out.c
        obtain ⟨s0, s1, s2, s3, s4, s5⟩ := HBX.out.r.c
        obtain ⟨g0, g1, g2, g3, g4, g5⟩ := HBX.out.r.f
        go_wp2
        refine hist_end (h := ⟨X.sc, ZE, O1, L1, O2, L2⟩) (pv := .slice a4 (uvals L1).length q4) (nv := .slice a5 (uvals L2).length q5) Try.results17 rfl rfl rfl (HBX.out.r.set ⟨X.sc, ZE, O1, L1, O2, L2⟩ _ _) ?_
        refine HGOOD.out _ _ _ ?_ ?_
        · exact (HM4.out.down HK0.out).set6 HBX.out.r (by omega) _ _ _ _ _ _
        · exact (HM5.out.down HK0.out).set6 HBX.out.r (by omega) _ _ _ _ _ _
      · rw [if_neg hs] at hE
        rw [if_neg (by omega)] at hRR
        have HBADS : Hid (∀ w', Kept (fun _ => False) w w' → HistNew w RR EE (.returned (.tuple #[histV zeroH (.slice none 0 0) (.slice none 0 0), .int .i64 1])) w') := Lib.hid fun w' k => by rw [hRR, hE]; exact HistNew.zero k
        by_cases hp1 : N1 ≤ 160
        · rw [decide_eq_true hp1] at HC1
          rw [decide_eq_false (show ¬ N2 ≤ 160 by omega)] at HC2
          clear hX hY hEL hlb k0 hw0 hlv hbad hright ha hb la1 la2 lb1 lb2 hE hz ex ey okx oky sx1 sx2 hx1 hx2 hx3 hy1 hy2 hy3 sx3 sx4 sx5 sx6 sy3 sy4 sy5 sy6 tx1 tx2 ty1 ty2 zx zy hTX hTY hZ hbig tsx tsy hN1 hN2 hZE hRR hs hp1
          obtain ⟨asc, aze, apo, apl, ano, anl⟩ := a
          obtain ⟨bsc, bze, bpo, bpl, bno, bnl⟩ := b
          unfold histV at HLV ⊢
          simp only at HLV HW0 ⊢
          go_enter Try.func17, Try.ntmps17
          go_upto_region 1 with fail
          rw [← HW0.out]
          obtain ⟨v0, v1, v2, v3, v4, v5⟩ := HB0.out.a.c
          obtain ⟨u0, u1, u2, u3, u4, u5⟩ := HB0.out.b.c
          go_wp2_with fail
          refine (HLV.out).mono ?_
          rintro e w1 ⟨p1, n1, p2, n2, rfl, m1, m2, m3, m4⟩
          obtain ⟨p1, q1, rfl⟩ := m1.slice
          obtain ⟨n1, r1, rfl⟩ := m2.slice
          obtain ⟨p2, q2, rfl⟩ := m3.slice
          obtain ⟨n2, r2, rfl⟩ := m4.slice
          unfold histV
          dsimp only
          have hk1 := (m1.kept.alloc (.cells #[.int .i64 X.sc, .int .u64 (X.ze : Int), .int .i64 X.po, .slice p1 (uvals X.pl).length q1, .int .i64 X.no, .slice n1 (uvals X.nl).length r1] 30)).alloc (.cells #[.int .i64 Y.sc, .int .u64 (Y.ze : Int), .int .i64 Y.po, .slice p2 (uvals Y.pl).length q2, .int .i64 Y.no, .slice n2 (uvals Y.nl).length r2] 30)
          have ha1 := (Kept.refl (fun _ => False) w1).alloc (.cells #[.int .i64 X.sc, .int .u64 (X.ze : Int), .int .i64 X.po, .slice p1 (uvals X.pl).length q1, .int .i64 X.no, .slice n1 (uvals X.nl).length r1] 30)
          have ha2 := (Kept.refl (fun _ => False) (w1.alloc (.cells #[.int .i64 X.sc, .int .u64 (X.ze : Int), .int .i64 X.po, .slice p1 (uvals X.pl).length q1, .int .i64 X.no, .slice n1 (uvals X.nl).length r1] 30))).alloc (.cells #[.int .i64 Y.sc, .int .u64 (Y.ze : Int), .int .i64 Y.po, .slice p2 (uvals Y.pl).length q2, .int .i64 Y.no, .slice n2 (uvals Y.nl).length r2] 30)
          obtain ⟨ws, hws⟩ : ∃ ws, ws = (w1.alloc (.cells #[.int .i64 X.sc, .int .u64 (X.ze : Int), .int .i64 X.po, .slice p1 (uvals X.pl).length q1, .int .i64 X.no, .slice n1 (uvals X.nl).length r1] 30)).alloc (.cells #[.int .i64 Y.sc, .int .u64 (Y.ze : Int), .int .i64 Y.po, .slice p2 (uvals Y.pl).length q2, .int .i64 Y.no, .slice n2 (uvals Y.nl).length r2] 30) := ⟨_, rfl⟩
          have hxb := (hist_boxed w1 X (.slice p1 (uvals X.pl).length q1) (.slice n1 (uvals X.nl).length r1)).same ha2 (fun x => x)
          have hyb := hist_boxed (w1.alloc (.cells #[.int .i64 X.sc, .int .u64 (X.ze : Int), .int .i64 X.po, .slice p1 (uvals X.pl).length q1, .int .i64 X.no, .slice n1 (uvals X.nl).length r1] 30)) Y (.slice p2 (uvals Y.pl).length q2) (.slice n2 (uvals Y.nl).length r2)
          rw [show (w1.alloc (.cells #[.int .i64 X.sc, .int .u64 (X.ze : Int), .int .i64 X.po, .slice p1 (uvals X.pl).length q1, .int .i64 X.no, .slice n1 (uvals X.nl).length r1] 30)).heap.size = w1.heap.size + 1 by simp] at hyb
          have htw := (Two2.mk m1 m2 m3 m4).on (ha1.trans ha2)
          rw [← hws] at hk1 hxb hyb htw
          have HXB := Lib.hid hxb
          have HYB := Lib.hid hyb
          have HTW := Lib.hid htw
          have HK1 := Lib.hid hk1
          have HBX := Lib.hid (HB0.out.on hk1)
          have HWS := Lib.hid hws
          clear m1 m2 m3 m4 hk1 htw hws v0 v1 v2 v3 v4 v5 u0 u1 u2 u3 u4 u5 hxb hyb ha1 ha2
          go_upto_region 2 with fail
          rw [← HWS.out]
          obtain ⟨x0, x1, x2, x3, x4, x5⟩ := HXB.out.c
          obtain ⟨y0, y1, y2, y3, y4, y5⟩ := HYB.out.c
          go_wp2_with fail
          refine (HT1.out _ _ _ HTW.out.atX).mono ?_
          rintro e w2 ⟨rfl, k2⟩
          have HS2 := Lib.hid k2
          clear k2
          have HBX := Lib.hid (HBX.out.on HS2.out)
          have HTW := Lib.hid (HTW.out.on HS2.out)
          have HXB := Lib.hid (HXB.out.same HS2.out (fun x => x))
          have HYB := Lib.hid (HYB.out.same HS2.out (fun x => x))
          clear x0 x1 x2 x3 x4 x5 y0 y1 y2 y3 y4 y5
          obtain ⟨x0, x1, x2, x3, x4, x5⟩ := HXB.out.c
          obtain ⟨y0, y1, y2, y3, y4, y5⟩ := HYB.out.c
          go_wp2_with fail
          refine (HT2.out _ _ _ HTW.out.atY).mono ?_
          rintro e w3 ⟨rfl, k3⟩
          have HS3 := Lib.hid k3
          clear k3
          have HBX := Lib.hid (HBX.out.on HS3.out)
          have HTW := Lib.hid (HTW.out.on HS3.out)
          have HXB := Lib.hid (HXB.out.same HS3.out (fun x => x))
          have HYB := Lib.hid (HYB.out.same HS3.out (fun x => x))
          clear x0 x1 x2 x3 x4 x5 y0 y1 y2 y3 y4 y5
          obtain ⟨x0, x1, x2, x3, x4, x5⟩ := HXB.out.c
          obtain ⟨y0, y1, y2, y3, y4, y5⟩ := HYB.out.c
          go_wp2_with fail
          refine (HC1.out _ HTW.out).mono ?_
          rintro e w4 ⟨v4, rfl, m4, k4⟩
          obtain ⟨a4, q4, rfl⟩ := m4.slice
          have hs4 := k4.alloc (.cells #[.int .i64 O1, .slice a4 (uvals L1).length q4] 28)
          have hm4 := m4.on ((Kept.refl (fun _ => False) w4).alloc (.cells #[.int .i64 O1, .slice a4 (uvals L1).length q4] 28))
          have hb4 := side_boxed w4 O1 (.slice a4 (uvals L1).length q4)
          obtain ⟨wx4, hwx4⟩ : ∃ w', w' = w4.alloc (.cells #[.int .i64 O1, .slice a4 (uvals L1).length q4] 28) := ⟨_, rfl⟩
          rw [← hwx4] at hs4 hm4 hb4
          have HS4 := Lib.hid hs4
          have HM4 := Lib.hid hm4
          have HSB4 := Lib.hid hb4
          have HWX4 := Lib.hid hwx4
          clear k4 m4 hs4 hm4 hb4 hwx4
          have HBX := Lib.hid (HBX.out.on HS4.out)
          have HTW := Lib.hid (HTW.out.on HS4.out)
          have HXB := Lib.hid (HXB.out.same HS4.out (fun x => x))
          have HYB := Lib.hid (HYB.out.same HS4.out (fun x => x))
          clear x0 x1 x2 x3 x4 x5 y0 y1 y2 y3 y4 y5
          go_upto_region 9 with fail
          rw [← HWX4.out]
          obtain ⟨x0, x1, x2, x3, x4, x5⟩ := HXB.out.c
          obtain ⟨y0, y1, y2, y3, y4, y5⟩ := HYB.out.c
          go_wp2_with fail
          refine (HC2.out _ HTW.out).mono ?_
          rintro e w5 ⟨v5, rfl, m5, k5⟩
          obtain ⟨a5, q5, rfl⟩ := m5.slice
          have hs5 := k5.alloc (.cells #[.int .i64 O2, .slice a5 (uvals L2).length q5] 28)
          have hm5 := m5.on ((Kept.refl (fun _ => False) w5).alloc (.cells #[.int .i64 O2, .slice a5 (uvals L2).length q5] 28))
          have hb5 := side_boxed w5 O2 (.slice a5 (uvals L2).length q5)
          obtain ⟨wx5, hwx5⟩ : ∃ w', w' = w5.alloc (.cells #[.int .i64 O2, .slice a5 (uvals L2).length q5] 28) := ⟨_, rfl⟩
          rw [← hwx5] at hs5 hm5 hb5
          have HS5 := Lib.hid hs5
          have HM5 := Lib.hid hm5
          have HSB5 := Lib.hid hb5
          have HWX5 := Lib.hid hwx5
          clear k5 m5 hs5 hm5 hb5 hwx5
          have HBX := Lib.hid (HBX.out.on HS5.out)
          have HTW := Lib.hid (HTW.out.on HS5.out)
          have HXB := Lib.hid (HXB.out.same HS5.out (fun x => x))
          have HYB := Lib.hid (HYB.out.same HS5.out (fun x => x))
          have HM4 := Lib.hid (HM4.out.on HS5.out)
          have HSB4 := Lib.hid (HSB4.out.same HS5.out (fun x => x))
          clear x0 x1 x2 x3 x4 x5 y0 y1 y2 y3 y4 y5
          go_upto_region 10 with fail
          rw [← HWX5.out]
          obtain ⟨x0, x1, x2, x3, x4, x5⟩ := HXB.out.c
          obtain ⟨y0, y1, y2, y3, y4, y5⟩ := HYB.out.c
          obtain ⟨s0, s1, s2, s3, s4, s5⟩ := HBX.out.r.c
          obtain ⟨g0, g1, g2, g3, g4, g5⟩ := HBX.out.r.f
          go_wp2
          refine hist_end (h := zeroH) (pv := .slice none 0 0) (nv := .slice none 0 0) Try.results17 rfl rfl rfl (HBX.out.r.set zeroH (.slice none 0 0) (.slice none 0 0)) ?_
          exact HBADS.out _ ((HK0.out.trans HTW.out.p1.kept).newer (set6_kept _ _ _ _ _ _ _ _) (fun i e => by omega))
        · rw [decide_eq_false hp1] at HC1
          obtain ⟨K2, hK2⟩ : ∃ K, K = decide (N2 ≤ 160) := ⟨_, rfl⟩
          rw [← hK2] at HC2
          clear hX hY hEL hlb k0 hw0 hlv hbad hright ha hb la1 la2 lb1 lb2 hE hz ex ey okx oky sx1 sx2 hx1 hx2 hx3 hy1 hy2 hy3 sx3 sx4 sx5 sx6 sy3 sy4 sy5 sy6 tx1 tx2 ty1 ty2 zx zy hTX hTY hZ hbig tsx tsy hN1 hN2 hZE hRR hs hp1 hK2
          obtain ⟨asc, aze, apo, apl, ano, anl⟩ := a
          obtain ⟨bsc, bze, bpo, bpl, bno, bnl⟩ := b
          unfold histV at HLV ⊢
          simp only at HLV HW0 ⊢
          go_enter Try.func17, Try.ntmps17
          go_upto_region 1 with fail
          rw [← HW0.out]
          obtain ⟨v0, v1, v2, v3, v4, v5⟩ := HB0.out.a.c
          obtain ⟨u0, u1, u2, u3, u4, u5⟩ := HB0.out.b.c
          go_wp2_with fail
          refine (HLV.out).mono ?_
          rintro e w1 ⟨p1, n1, p2, n2, rfl, m1, m2, m3, m4⟩
          obtain ⟨p1, q1, rfl⟩ := m1.slice
          obtain ⟨n1, r1, rfl⟩ := m2.slice
          obtain ⟨p2, q2, rfl⟩ := m3.slice
          obtain ⟨n2, r2, rfl⟩ := m4.slice
          unfold histV
          dsimp only
          have hk1 := (m1.kept.alloc (.cells #[.int .i64 X.sc, .int .u64 (X.ze : Int), .int .i64 X.po, .slice p1 (uvals X.pl).length q1, .int .i64 X.no, .slice n1 (uvals X.nl).length r1] 30)).alloc (.cells #[.int .i64 Y.sc, .int .u64 (Y.ze : Int), .int .i64 Y.po, .slice p2 (uvals Y.pl).length q2, .int .i64 Y.no, .slice n2 (uvals Y.nl).length r2] 30)
          have ha1 := (Kept.refl (fun _ => False) w1).alloc (.cells #[.int .i64 X.sc, .int .u64 (X.ze : Int), .int .i64 X.po, .slice p1 (uvals X.pl).length q1, .int .i64 X.no, .slice n1 (uvals X.nl).length r1] 30)
          have ha2 := (Kept.refl (fun _ => False) (w1.alloc (.cells #[.int .i64 X.sc, .int .u64 (X.ze : Int), .int .i64 X.po, .slice p1 (uvals X.pl).length q1, .int .i64 X.no, .slice n1 (uvals X.nl).length r1] 30))).alloc (.cells #[.int .i64 Y.sc, .int .u64 (Y.ze : Int), .int .i64 Y.po, .slice p2 (uvals Y.pl).length q2, .int .i64 Y.no, .slice n2 (uvals Y.nl).length r2] 30)
          obtain ⟨ws, hws⟩ : ∃ ws, ws = (w1.alloc (.cells #[.int .i64 X.sc, .int .u64 (X.ze : Int), .int .i64 X.po, .slice p1 (uvals X.pl).length q1, .int .i64 X.no, .slice n1 (uvals X.nl).length r1] 30)).alloc (.cells #[.int .i64 Y.sc, .int .u64 (Y.ze : Int), .int .i64 Y.po, .slice p2 (uvals Y.pl).length q2, .int .i64 Y.no, .slice n2 (uvals Y.nl).length r2] 30) := ⟨_, rfl⟩
          have hxb := (hist_boxed w1 X (.slice p1 (uvals X.pl).length q1) (.slice n1 (uvals X.nl).length r1)).same ha2 (fun x => x)
          have hyb := hist_boxed (w1.alloc (.cells #[.int .i64 X.sc, .int .u64 (X.ze : Int), .int .i64 X.po, .slice p1 (uvals X.pl).length q1, .int .i64 X.no, .slice n1 (uvals X.nl).length r1] 30)) Y (.slice p2 (uvals Y.pl).length q2) (.slice n2 (uvals Y.nl).length r2)
          rw [show (w1.alloc (.cells #[.int .i64 X.sc, .int .u64 (X.ze : Int), .int .i64 X.po, .slice p1 (uvals X.pl).length q1, .int .i64 X.no, .slice n1 (uvals X.nl).length r1] 30)).heap.size = w1.heap.size + 1 by simp] at hyb
          have htw := (Two2.mk m1 m2 m3 m4).on (ha1.trans ha2)
          rw [← hws] at hk1 hxb hyb htw
          have HXB := Lib.hid hxb
          have HYB := Lib.hid hyb
          have HTW := Lib.hid htw
          have HK1 := Lib.hid hk1
          have HBX := Lib.hid (HB0.out.on hk1)
          have HWS := Lib.hid hws
          clear m1 m2 m3 m4 hk1 htw hws v0 v1 v2 v3 v4 v5 u0 u1 u2 u3 u4 u5 hxb hyb ha1 ha2
          go_upto_region 2 with fail
          rw [← HWS.out]
          obtain ⟨x0, x1, x2, x3, x4, x5⟩ := HXB.out.c
          obtain ⟨y0, y1, y2, y3, y4, y5⟩ := HYB.out.c
          go_wp2_with fail
          refine (HT1.out _ _ _ HTW.out.atX).mono ?_
          rintro e w2 ⟨rfl, k2⟩
          have HS2 := Lib.hid k2
          clear k2
          have HBX := Lib.hid (HBX.out.on HS2.out)
          have HTW := Lib.hid (HTW.out.on HS2.out)
          have HXB := Lib.hid (HXB.out.same HS2.out (fun x => x))
          have HYB := Lib.hid (HYB.out.same HS2.out (fun x => x))
          clear x0 x1 x2 x3 x4 x5 y0 y1 y2 y3 y4 y5
          obtain ⟨x0, x1, x2, x3, x4, x5⟩ := HXB.out.c
          obtain ⟨y0, y1, y2, y3, y4, y5⟩ := HYB.out.c
          go_wp2_with fail
          refine (HT2.out _ _ _ HTW.out.atY).mono ?_
          rintro e w3 ⟨rfl, k3⟩
          have HS3 := Lib.hid k3
          clear k3
          have HBX := Lib.hid (HBX.out.on HS3.out)
          have HTW := Lib.hid (HTW.out.on HS3.out)
          have HXB := Lib.hid (HXB.out.same HS3.out (fun x => x))
          have HYB := Lib.hid (HYB.out.same HS3.out (fun x => x))
          clear x0 x1 x2 x3 x4 x5 y0 y1 y2 y3 y4 y5
          obtain ⟨x0, x1, x2, x3, x4, x5⟩ := HXB.out.c
          obtain ⟨y0, y1, y2, y3, y4, y5⟩ := HYB.out.c
          go_wp2_with fail
          refine (HC1.out _ HTW.out).mono ?_
          rintro e w4 ⟨v4, rfl, m4, k4⟩
          obtain ⟨a4, q4, rfl⟩ := m4.slice
          have hs4 := k4.alloc (.cells #[.int .i64 O1, .slice a4 (uvals L1).length q4] 28)
          have hm4 := m4.on ((Kept.refl (fun _ => False) w4).alloc (.cells #[.int .i64 O1, .slice a4 (uvals L1).length q4] 28))
          have hb4 := side_boxed w4 O1 (.slice a4 (uvals L1).length q4)
          obtain ⟨wx4, hwx4⟩ : ∃ w', w' = w4.alloc (.cells #[.int .i64 O1, .slice a4 (uvals L1).length q4] 28) := ⟨_, rfl⟩
          rw [← hwx4] at hs4 hm4 hb4
          have HS4 := Lib.hid hs4
          have HM4 := Lib.hid hm4
          have HSB4 := Lib.hid hb4
          have HWX4 := Lib.hid hwx4
          clear k4 m4 hs4 hm4 hb4 hwx4
          have HBX := Lib.hid (HBX.out.on HS4.out)
          have HTW := Lib.hid (HTW.out.on HS4.out)
          have HXB := Lib.hid (HXB.out.same HS4.out (fun x => x))
          have HYB := Lib.hid (HYB.out.same HS4.out (fun x => x))
          clear x0 x1 x2 x3 x4 x5 y0 y1 y2 y3 y4 y5
          go_upto_region 9 with fail
          rw [← HWX4.out]
          obtain ⟨x0, x1, x2, x3, x4, x5⟩ := HXB.out.c
          obtain ⟨y0, y1, y2, y3, y4, y5⟩ := HYB.out.c
          go_wp2_with fail
          refine (HC2.out _ HTW.out).mono ?_
          rintro e w5 ⟨v5, rfl, m5, k5⟩
          obtain ⟨a5, q5, rfl⟩ := m5.slice
          have hs5 := k5.alloc (.cells #[.int .i64 O2, .slice a5 (uvals L2).length q5] 28)
          have hm5 := m5.on ((Kept.refl (fun _ => False) w5).alloc (.cells #[.int .i64 O2, .slice a5 (uvals L2).length q5] 28))
          have hb5 := side_boxed w5 O2 (.slice a5 (uvals L2).length q5)
          obtain ⟨wx5, hwx5⟩ : ∃ w', w' = w5.alloc (.cells #[.int .i64 O2, .slice a5 (uvals L2).length q5] 28) := ⟨_, rfl⟩
          rw [← hwx5] at hs5 hm5 hb5
          have HS5 := Lib.hid hs5
          have HM5 := Lib.hid hm5
          have HSB5 := Lib.hid hb5
          have HWX5 := Lib.hid hwx5
          clear k5 m5 hs5 hm5 hb5 hwx5
          have HBX := Lib.hid (HBX.out.on HS5.out)
          have HTW := Lib.hid (HTW.out.on HS5.out)
          have HXB := Lib.hid (HXB.out.same HS5.out (fun x => x))
          have HYB := Lib.hid (HYB.out.same HS5.out (fun x => x))
          have HM4 := Lib.hid (HM4.out.on HS5.out)
          have HSB4 := Lib.hid (HSB4.out.same HS5.out (fun x => x))
          clear x0 x1 x2 x3 x4 x5 y0 y1 y2 y3 y4 y5
          go_upto_region 10 with fail
          rw [← HWX5.out]
          obtain ⟨x0, x1, x2, x3, x4, x5⟩ := HXB.out.c
          obtain ⟨y0, y1, y2, y3, y4, y5⟩ := HYB.out.c
          obtain ⟨s0, s1, s2, s3, s4, s5⟩ := HBX.out.r.c
          obtain ⟨g0, g1, g2, g3, g4, g5⟩ := HBX.out.r.f
          go_wp2
          refine hist_end (h := zeroH) (pv := .slice none 0 0) (nv := .slice none 0 0) Try.results17 rfl rfl rfl (HBX.out.r.set zeroH (.slice none 0 0) (.slice none 0 0)) ?_
          exact HBADS.out _ ((HK0.out.trans HTW.out.p1.kept).newer (set6_kept _ _ _ _ _ _ _ _) (fun i e => by omega))
  · have qE : ((EL : Int) != 0) = true := bneT (by omega)
    rw [if_pos hz] at hE
    obtain ⟨e1, e2⟩ := hbad (by omega)
    have HBADE : Hid (∀ w', Kept (fun _ => False) w w' → HistNew w (if EE = 0 then mgH2 X Y else zeroH) EE (.returned (.tuple #[histV zeroH (.slice none 0 0) (.slice none 0 0), .int .i64 (EL : Int)])) w') := Lib.hid fun w' k => by rw [if_neg (by omega), hE]; exact HistNew.zero k
    obtain ⟨RR, hRR⟩ : ∃ R, R = if EE = 0 then mgH2 X Y else zeroH := ⟨_, rfl⟩
    rw [← hRR] at HBADE ⊢
    clear hX hY hEL hlb k0 hw0 hlv hbad hright ha hb la1 la2 lb1 lb2 hE hz e1 e2 hRR
    obtain ⟨asc, aze, apo, apl, ano, anl⟩ := a
    obtain ⟨bsc, bze, bpo, bpl, bno, bnl⟩ := b
    unfold histV at HLV ⊢
    simp only at HLV HW0 ⊢
    go_enter Try.func17, Try.ntmps17
    go_upto_region 1 with fail
    rw [← HW0.out]
    obtain ⟨v0, v1, v2, v3, v4, v5⟩ := HB0.out.a.c
    obtain ⟨u0, u1, u2, u3, u4, u5⟩ := HB0.out.b.c
    go_wp2_with fail
    refine (HLV.out).mono ?_
    rintro e w1 ⟨p1, n1, p2, n2, rfl, m1, m2, m3, m4⟩
    obtain ⟨p1, q1, rfl⟩ := m1.slice
    obtain ⟨n1, r1, rfl⟩ := m2.slice
    obtain ⟨p2, q2, rfl⟩ := m3.slice
    obtain ⟨n2, r2, rfl⟩ := m4.slice
    unfold histV
    dsimp only
    have hk1 := (m1.kept.alloc (.cells #[.int .i64 X.sc, .int .u64 (X.ze : Int), .int .i64 X.po, .slice p1 (uvals X.pl).length q1, .int .i64 X.no, .slice n1 (uvals X.nl).length r1] 30)).alloc (.cells #[.int .i64 Y.sc, .int .u64 (Y.ze : Int), .int .i64 Y.po, .slice p2 (uvals Y.pl).length q2, .int .i64 Y.no, .slice n2 (uvals Y.nl).length r2] 30)
    have ha1 := (Kept.refl (fun _ => False) w1).alloc (.cells #[.int .i64 X.sc, .int .u64 (X.ze : Int), .int .i64 X.po, .slice p1 (uvals X.pl).length q1, .int .i64 X.no, .slice n1 (uvals X.nl).length r1] 30)
    have ha2 := (Kept.refl (fun _ => False) (w1.alloc (.cells #[.int .i64 X.sc, .int .u64 (X.ze : Int), .int .i64 X.po, .slice p1 (uvals X.pl).length q1, .int .i64 X.no, .slice n1 (uvals X.nl).length r1] 30))).alloc (.cells #[.int .i64 Y.sc, .int .u64 (Y.ze : Int), .int .i64 Y.po, .slice p2 (uvals Y.pl).length q2, .int .i64 Y.no, .slice n2 (uvals Y.nl).length r2] 30)
    obtain ⟨ws, hws⟩ : ∃ ws, ws = (w1.alloc (.cells #[.int .i64 X.sc, .int .u64 (X.ze : Int), .int .i64 X.po, .slice p1 (uvals X.pl).length q1, .int .i64 X.no, .slice n1 (uvals X.nl).length r1] 30)).alloc (.cells #[.int .i64 Y.sc, .int .u64 (Y.ze : Int), .int .i64 Y.po, .slice p2 (uvals Y.pl).length q2, .int .i64 Y.no, .slice n2 (uvals Y.nl).length r2] 30) := ⟨_, rfl⟩
    have hxb := (hist_boxed w1 X (.slice p1 (uvals X.pl).length q1) (.slice n1 (uvals X.nl).length r1)).same ha2 (fun x => x)
    have hyb := hist_boxed (w1.alloc (.cells #[.int .i64 X.sc, .int .u64 (X.ze : Int), .int .i64 X.po, .slice p1 (uvals X.pl).length q1, .int .i64 X.no, .slice n1 (uvals X.nl).length r1] 30)) Y (.slice p2 (uvals Y.pl).length q2) (.slice n2 (uvals Y.nl).length r2)
    rw [show (w1.alloc (.cells #[.int .i64 X.sc, .int .u64 (X.ze : Int), .int .i64 X.po, .slice p1 (uvals X.pl).length q1, .int .i64 X.no, .slice n1 (uvals X.nl).length r1] 30)).heap.size = w1.heap.size + 1 by simp] at hyb
    have htw := (Two2.mk m1 m2 m3 m4).on (ha1.trans ha2)
    rw [← hws] at hk1 hxb hyb htw
    have HXB := Lib.hid hxb
    have HYB := Lib.hid hyb
    have HTW := Lib.hid htw
    have HK1 := Lib.hid hk1
    have HBX := Lib.hid (HB0.out.on hk1)
    have HWS := Lib.hid hws
    clear m1 m2 m3 m4 hk1 htw hws v0 v1 v2 v3 v4 v5 u0 u1 u2 u3 u4 u5 hxb hyb ha1 ha2
    go_upto_region 2 with fail
    rw [← HWS.out]
    obtain ⟨s0, s1, s2, s3, s4, s5⟩ := HBX.out.r.c
    obtain ⟨g0, g1, g2, g3, g4, g5⟩ := HBX.out.r.f
    go_wp2
    refine hist_end (h := zeroH) (pv := .slice none 0 0) (nv := .slice none 0 0) Try.results17 rfl rfl rfl (HBX.out.r.set zeroH (.slice none 0 0) (.slice none 0 0)) ?_
    exact HBADE.out _ ((HK0.out.trans HTW.out.p1.kept).newer (set6_kept _ _ _ _ _ _ _ _) (fun i e => by omega))
end Go.Proofs.Ytiiibhdohlpodaa

-- E12
namespace Go.Proofs.Ytiiibhdohlpodaa
open Go.RowKit
attribute [local go_sem ↓] Go.wp_at_zero Go.wp_at_succ

set_option maxHeartbeats 4000000 in
set_option maxRecDepth 100000 in
theorem ref9Merge_any (a b : HistV) (ap an bp bn : Value) (w : World) (ha : HistIn w a ap an) (hb : HistIn w b bp bn) (la1 : a.pl.length ≤ 1000000) (la2 : a.nl.length ≤ 1000000) (lb1 : b.pl.length ≤ 1000000) (lb2 : b.nl.length ≤ 1000000) :
    Calls Try.prog 58 #[histV a ap an, histV b bp bn] w (HistNew w (mgH a b) (mgE a b)) := by
  obtain ⟨⟨ao, c, rfl⟩, a1, c1, rfl⟩ := ha.at_.sl
  obtain ⟨⟨bo, d, rfl⟩, b1, d1, rfl⟩ := hb.at_.sl
  have hlb := HB3.mk0 w a b (.slice ao a.pl.length c) (.slice a1 a.nl.length c1) (.slice bo b.pl.length d) (.slice b1 b.nl.length d1)
  obtain ⟨w0, hw0⟩ : ∃ w0, w0 = (((w.alloc (.cells #[.int .i64 a.sc, .int .u64 (a.ze : Int), .int .i64 a.po, .slice ao a.pl.length c, .int .i64 a.no, .slice a1 a.nl.length c1] 30)).alloc (.cells #[.int .i64 b.sc, .int .u64 (b.ze : Int), .int .i64 b.po, .slice bo b.pl.length d, .int .i64 b.no, .slice b1 b.nl.length d1] 30)).alloc (.cells #[.int .i64 0, .int .u64 0, .int .i64 0, .slice none 0 0, .int .i64 0, .slice none 0 0] 30)) := ⟨_, rfl⟩
  rw [← hw0] at hlb
  have k0 : Kept (fun _ => False) w w0 := by rw [hw0]; exact (((Kept.refl _ w).alloc _).alloc _).alloc _
  have HK0 := Lib.hid k0
  have HB0 := Lib.hid hlb
  have hlv := refLevel_any a b _ _ _ _ w0 (ha.on k0) (hb.on k0) la1 la2 lb1 lb2
  have hbad := lev_bad (a := a) (b := b)
  have hright := fun h => lev_right (a := a) (b := b) h ha.ok hb.ok
  have HW0 := Lib.hid hw0
  have hE : mgE a b = if levE a b ≠ 0 then levE a b else if 18446744073709551616 ≤ (levX a b).total + (levY a b).total then 4 else if spN (levX a b).po (levX a b).pl (levY a b).po (levY a b).pl ≤ 160 ∧ spN (levX a b).no (levX a b).nl (levY a b).no (levY a b).nl ≤ 160 then 0 else 1 := rfl
  have hR : mgH a b = if mgE a b = 0 then mgH2 (levX a b) (levY a b) else zeroH := rfl
  rw [hR]
  obtain ⟨EE, hEE⟩ : ∃ E, E = mgE a b := ⟨_, rfl⟩
  rw [← hEE] at hE ⊢
  clear hR hEE
  obtain ⟨X, hX⟩ : ∃ X, X = levX a b := ⟨_, rfl⟩
  obtain ⟨Y, hY⟩ : ∃ Y, Y = levY a b := ⟨_, rfl⟩
  obtain ⟨EL, hEL⟩ : ∃ E, E = levE a b := ⟨_, rfl⟩
  rw [← hX, ← hY] at hlv hbad hright hE ⊢
  rw [← hEL] at hlv hbad hright hE
  have HLV := Lib.hid hlv
  by_cases hz : EL = 0
  · have qE : ((EL : Int) != 0) = false := bneF (by omega)
    obtain ⟨_, _, ex, ey, okx, oky, _, _⟩ := hright hz
    obtain ⟨⟨sx1, sx2⟩, hx1, hx2, hx3⟩ := err_light ex
    obtain ⟨_, hy1, hy2, hy3⟩ := err_light ey
    obtain ⟨sx3, sx4⟩ := side_range hx1
    obtain ⟨sx5, sx6⟩ := side_range hx2
    obtain ⟨sy3, sy4⟩ := side_range hy1
    obtain ⟨sy5, sy6⟩ := side_range hy2
    obtain ⟨tx1, tx2⟩ := total_parts hx3
    obtain ⟨ty1, ty2⟩ := total_parts hy3
    have zx := okx.ze
    have zy := oky.ze
    have HT1 := Lib.hid fun w' pv nv (k : HistAt w' X pv nv) => refTotal_any X pv nv w' k okx.ze (by omega) (by omega) okx.pl okx.nl
    have HT2 := Lib.hid fun w' pv nv (k : HistAt w' Y pv nv) => refTotal_any Y pv nv w' k oky.ze (by omega) (by omega) oky.pl oky.nl
    have e1 : totV X = .tuple #[.int .u64 (X.total : Int), .bool true] := by unfold totV; rw [if_pos hx3, decide_eq_true hx3]
    have e2 : totV Y = .tuple #[.int .u64 (Y.total : Int), .bool true] := by unfold totV; rw [if_pos hy3, decide_eq_true hy3]
    rw [e1] at HT1
    rw [e2] at HT2
    clear e1 e2
    have tsx : X.ze + X.pl.sum + X.nl.sum = X.total := by unfold HistV.total sumN; rfl
    have tsy : Y.ze + Y.pl.sum + Y.nl.sum = Y.total := by unfold HistV.total sumN; rfl
    obtain ⟨TX, hTX⟩ : ∃ T, T = X.total := ⟨_, rfl⟩
    obtain ⟨TY, hTY⟩ : ∃ T, T = Y.total := ⟨_, rfl⟩
    rw [← hTX] at HT1 hE tsx hx3
    rw [← hTY] at HT2 hE tsy hy3
    obtain ⟨Z, hZ⟩ : ∃ Z : Nat, Z = 18446744073709551615 - TY := ⟨_, rfl⟩
    have d1 : IntKind.u64.wrap (18446744073709551615 - (TY : Int)) = (Z : Int) := by rw [IntKind.wrap_u64]; omega
    have d2 : (18446744073709551615 : Int) - (TY : Int) = (Z : Int) := by omega
    have d3 : IntKind.u64.wrap (Z : Int) = (Z : Int) := by rw [IntKind.wrap_u64]; omega
    by_cases hbig : Z < TX
    · have qb : (Z : Int) < (TX : Int) := by omega
      rw [if_neg (by omega), if_pos (by omega)] at hE
      have HBADS : Hid (∀ w', Kept (fun _ => False) w w' → HistNew w (if EE = 0 then mgH2 X Y else zeroH) EE (.returned (.tuple #[histV zeroH (.slice none 0 0) (.slice none 0 0), .int .i64 4])) w') := Lib.hid fun w' k => by rw [if_neg (by omega), hE]; exact HistNew.zero k
      obtain ⟨RR, hRR⟩ : ∃ R, R = if EE = 0 then mgH2 X Y else zeroH := ⟨_, rfl⟩
      rw [← hRR] at HBADS ⊢
      clear hX hY hEL hlb k0 hw0 hlv hbad hright ha hb la1 la2 lb1 lb2 hE hz ex ey okx oky sx1 sx2 hx1 hx2 hx3 hy1 hy2 hy3 sx3 sx4 sx5 sx6 sy3 sy4 sy5 sy6 tx1 tx2 ty1 ty2 zx zy hRR hTX hTY hZ hbig tsx tsy
      obtain ⟨asc, aze, apo, apl, ano, anl⟩ := a
      obtain ⟨bsc, bze, bpo, bpl, bno, bnl⟩ := b
      unfold histV at HLV ⊢
      simp only at HLV HW0 ⊢
      go_enter Try.func58, Try.ntmps58
      go_upto_region 1 with fail
      rw [← HW0.out]
      obtain ⟨v0, v1, v2, v3, v4, v5⟩ := HB0.out.a.c
      obtain ⟨u0, u1, u2, u3, u4, u5⟩ := HB0.out.b.c
      go_wp2_with fail
      refine (HLV.out).mono ?_
      rintro e w1 ⟨p1, n1, p2, n2, rfl, m1, m2, m3, m4⟩
      obtain ⟨p1, q1, rfl⟩ := m1.slice
      obtain ⟨n1, r1, rfl⟩ := m2.slice
      obtain ⟨p2, q2, rfl⟩ := m3.slice
      obtain ⟨n2, r2, rfl⟩ := m4.slice
      unfold pairV
      dsimp only
      have hk1 := m1.kept.alloc (.cells #[.int .i64 X.sc, .int .u64 (X.ze : Int), .int .i64 X.po, .slice p1 (uvals X.pl).length q1, .int .i64 X.no, .slice n1 (uvals X.nl).length r1, .int .i64 Y.sc, .int .u64 (Y.ze : Int), .int .i64 Y.po, .slice p2 (uvals Y.pl).length q2, .int .i64 Y.no, .slice n2 (uvals Y.nl).length r2, .int .i64 (EL : Int)] 89)
      have ha1 := (Kept.refl (fun _ => False) w1).alloc (.cells #[.int .i64 X.sc, .int .u64 (X.ze : Int), .int .i64 X.po, .slice p1 (uvals X.pl).length q1, .int .i64 X.no, .slice n1 (uvals X.nl).length r1, .int .i64 Y.sc, .int .u64 (Y.ze : Int), .int .i64 Y.po, .slice p2 (uvals Y.pl).length q2, .int .i64 Y.no, .slice n2 (uvals Y.nl).length r2, .int .i64 (EL : Int)] 89)
      obtain ⟨ws, hws⟩ : ∃ ws, ws = w1.alloc (.cells #[.int .i64 X.sc, .int .u64 (X.ze : Int), .int .i64 X.po, .slice p1 (uvals X.pl).length q1, .int .i64 X.no, .slice n1 (uvals X.nl).length r1, .int .i64 Y.sc, .int .u64 (Y.ze : Int), .int .i64 Y.po, .slice p2 (uvals Y.pl).length q2, .int .i64 Y.no, .slice n2 (uvals Y.nl).length r2, .int .i64 (EL : Int)] 89) := ⟨_, rfl⟩
      have hpb := pair_boxed w1 X Y (.slice p1 (uvals X.pl).length q1) (.slice n1 (uvals X.nl).length r1) (.slice p2 (uvals Y.pl).length q2) (.slice n2 (uvals Y.nl).length r2) EL
      have htw := (Two2.mk m1 m2 m3 m4).on ha1
      rw [← hws] at hk1 hpb htw
      have HPB := Lib.hid hpb
      have HTW := Lib.hid htw
      have HK1 := Lib.hid hk1
      have HBX := Lib.hid (HB0.out.on hk1)
      have HWS := Lib.hid hws
      clear m1 m2 m3 m4 hk1 htw hws v0 v1 v2 v3 v4 v5 u0 u1 u2 u3 u4 u5 hpb ha1
      go_upto_region 2 with fail
      rw [← HWS.out]
      obtain ⟨⟨x0, x1, x2, x3, x4, x5⟩, ⟨y0, y1, y2, y3, y4, y5⟩, z0⟩ := HPB.out.c
      go_wp2_with fail
      refine (HT1.out _ _ _ HTW.out.atX).mono ?_
      rintro e w2 ⟨rfl, k2⟩
      have HS2 := Lib.hid k2
      clear k2
      have HBX := Lib.hid (HBX.out.on HS2.out)
      have HTW := Lib.hid (HTW.out.on HS2.out)
      have HPB := Lib.hid (HPB.out.same HS2.out (fun x => x))
      clear x0 x1 x2 x3 x4 x5 y0 y1 y2 y3 y4 y5 z0
      obtain ⟨⟨x0, x1, x2, x3, x4, x5⟩, ⟨y0, y1, y2, y3, y4, y5⟩, z0⟩ := HPB.out.c
      go_wp2_with fail
      refine (HT2.out _ _ _ HTW.out.atY).mono ?_
      rintro e w3 ⟨rfl, k3⟩
      have HS3 := Lib.hid k3
      clear k3
      have HBX := Lib.hid (HBX.out.on HS3.out)
      have HTW := Lib.hid (HTW.out.on HS3.out)
      have HPB := Lib.hid (HPB.out.same HS3.out (fun x => x))
      clear x0 x1 x2 x3 x4 x5 y0 y1 y2 y3 y4 y5 z0
      obtain ⟨s0, s1, s2, s3, s4, s5⟩ := HBX.out.r.c
      obtain ⟨g0, g1, g2, g3, g4, g5⟩ := HBX.out.r.f
      go_wp2
      refine hist_end (h := zeroH) (pv := .slice none 0 0) (nv := .slice none 0 0) Try.results58 rfl rfl rfl (HBX.out.r.set zeroH (.slice none 0 0) (.slice none 0 0)) ?_
      exact HBADS.out _ ((HK0.out.trans HTW.out.p1.kept).newer (set6_kept _ _ _ _ _ _ _ _) (fun i e => by omega))
    · have qb : ¬ (Z : Int) < (TX : Int) := by omega
      rw [if_neg (by omega), if_neg (by omega)] at hE
      have HC1 := Lib.hid (fun w' {p1 n1 p2 n2 : Value} (t : Two2 w0 w' X Y p1 n1 p2 n2) => (refBoth_any X.po X.pl Y.po Y.pl _ _ w' t.p1.at_ t.p2.at_ hx1 hy1 (by omega)).mono fun e w'' h => SideTry.down h t.p1.kept)
      have HC2 := Lib.hid (fun w' {p1 n1 p2 n2 : Value} (t : Two2 w0 w' X Y p1 n1 p2 n2) => (refBoth_any X.no X.nl Y.no Y.nl _ _ w' t.n1.at_ t.n2.at_ hx2 hy2 (by omega)).mono fun e w'' h => SideTry.down h t.n1.kept)
      obtain ⟨N1, hN1⟩ : ∃ N, N = spN X.po X.pl Y.po Y.pl := ⟨_, rfl⟩
      obtain ⟨N2, hN2⟩ : ∃ N, N = spN X.no X.nl Y.no Y.nl := ⟨_, rfl⟩
      rw [← hN1, ← hN2] at hE
      have hk1 : mgOk X.po X.pl Y.po Y.pl = decide (N1 ≤ 160) := by rw [hN1]; rfl
      have hk2 : mgOk X.no X.nl Y.no Y.nl = decide (N2 ≤ 160) := by rw [hN2]; rfl
      have hmr : mgH2 X Y = ⟨X.sc, X.ze + Y.ze, mgO X.po X.pl Y.po Y.pl, mgR X.po X.pl Y.po Y.pl, mgO X.no X.nl Y.no Y.nl, mgR X.no X.nl Y.no Y.nl⟩ := rfl
      rw [hmr]
      rw [hk1] at HC1
      rw [hk2] at HC2
      obtain ⟨O1, hO1⟩ : ∃ O, O = mgO X.po X.pl Y.po Y.pl := ⟨_, rfl⟩
      obtain ⟨L1, hL1⟩ : ∃ O, O = mgR X.po X.pl Y.po Y.pl := ⟨_, rfl⟩
      obtain ⟨O2, hO2⟩ : ∃ O, O = mgO X.no X.nl Y.no Y.nl := ⟨_, rfl⟩
      obtain ⟨L2, hL2⟩ : ∃ O, O = mgR X.no X.nl Y.no Y.nl := ⟨_, rfl⟩
      rw [← hO1, ← hL1] at HC1
      rw [← hO2, ← hL2] at HC2
      rw [← hO1, ← hL1, ← hO2, ← hL2]
      clear hk1 hk2 hmr hO1 hO2 hL1 hL2
      obtain ⟨ZE, hZE⟩ : ∃ Z, Z = X.ze + Y.ze := ⟨_, rfl⟩
      rw [← hZE]
      have u1 : IntKind.u64.wrap ((X.ze : Int) + (Y.ze : Int)) = (ZE : Int) := by rw [IntKind.wrap_u64]; omega
      have u2 : (X.ze : Int) + (Y.ze : Int) = (ZE : Int) := by omega
      have u3 : IntKind.u64.wrap (ZE : Int) = (ZE : Int) := by rw [IntKind.wrap_u64]; omega
      obtain ⟨RR, hRR⟩ : ∃ R, R = if EE = 0 then (⟨X.sc, ZE, O1, L1, O2, L2⟩ : HistV) else zeroH := ⟨_, rfl⟩
      rw [← hRR]
      by_cases hs : N1 ≤ 160 ∧ N2 ≤ 160
      · rw [if_pos hs] at hE
        rw [if_pos hE] at hRR
        rw [decide_eq_true hs.1] at HC1
        rw [decide_eq_true hs.2] at HC2
        have HGOOD : Hid (∀ w' pv nv, Mine w w' 25 pv (uvals L1) → Mine w w' 25 nv (uvals L2) → HistNew w RR EE (.returned (.tuple #[histV ⟨X.sc, ZE, O1, L1, O2, L2⟩ pv nv, .int .i64 0])) w') := Lib.hid fun w' pv nv h1 h2 => by rw [hRR, hE]; exact ⟨pv, nv, rfl, h1, h2⟩
        clear hX hY hEL hlb k0 hw0 hlv hbad hright ha hb la1 la2 lb1 lb2 hE hz ex ey okx oky sx1 sx2 hx1 hx2 hx3 hy1 hy2 hy3 sx3 sx4 sx5 sx6 sy3 sy4 sy5 sy6 tx1 tx2 ty1 ty2 zx zy hTX hTY hZ hbig tsx tsy hN1 hN2 hZE hRR hs
        obtain ⟨asc, aze, apo, apl, ano, anl⟩ := a
        obtain ⟨bsc, bze, bpo, bpl, bno, bnl⟩ := b
        unfold histV at HLV ⊢
        simp only at HLV HW0 ⊢
        go_enter Try.func58, Try.ntmps58
        go_upto_region 1 with fail
        rw [← HW0.out]
        obtain ⟨v0, v1, v2, v3, v4, v5⟩ := HB0.out.a.c
        obtain ⟨u0, u1, u2, u3, u4, u5⟩ := HB0.out.b.c
        go_wp2_with fail
        refine (HLV.out).mono ?_
        rintro e w1 ⟨p1, n1, p2, n2, rfl, m1, m2, m3, m4⟩
        obtain ⟨p1, q1, rfl⟩ := m1.slice
        obtain ⟨n1, r1, rfl⟩ := m2.slice
        obtain ⟨p2, q2, rfl⟩ := m3.slice
        obtain ⟨n2, r2, rfl⟩ := m4.slice
        unfold pairV
        dsimp only
        have hk1 := m1.kept.alloc (.cells #[.int .i64 X.sc, .int .u64 (X.ze : Int), .int .i64 X.po, .slice p1 (uvals X.pl).length q1, .int .i64 X.no, .slice n1 (uvals X.nl).length r1, .int .i64 Y.sc, .int .u64 (Y.ze : Int), .int .i64 Y.po, .slice p2 (uvals Y.pl).length q2, .int .i64 Y.no, .slice n2 (uvals Y.nl).length r2, .int .i64 (EL : Int)] 89)
        have ha1 := (Kept.refl (fun _ => False) w1).alloc (.cells #[.int .i64 X.sc, .int .u64 (X.ze : Int), .int .i64 X.po, .slice p1 (uvals X.pl).length q1, .int .i64 X.no, .slice n1 (uvals X.nl).length r1, .int .i64 Y.sc, .int .u64 (Y.ze : Int), .int .i64 Y.po, .slice p2 (uvals Y.pl).length q2, .int .i64 Y.no, .slice n2 (uvals Y.nl).length r2, .int .i64 (EL : Int)] 89)
        obtain ⟨ws, hws⟩ : ∃ ws, ws = w1.alloc (.cells #[.int .i64 X.sc, .int .u64 (X.ze : Int), .int .i64 X.po, .slice p1 (uvals X.pl).length q1, .int .i64 X.no, .slice n1 (uvals X.nl).length r1, .int .i64 Y.sc, .int .u64 (Y.ze : Int), .int .i64 Y.po, .slice p2 (uvals Y.pl).length q2, .int .i64 Y.no, .slice n2 (uvals Y.nl).length r2, .int .i64 (EL : Int)] 89) := ⟨_, rfl⟩
        have hpb := pair_boxed w1 X Y (.slice p1 (uvals X.pl).length q1) (.slice n1 (uvals X.nl).length r1) (.slice p2 (uvals Y.pl).length q2) (.slice n2 (uvals Y.nl).length r2) EL
        have htw := (Two2.mk m1 m2 m3 m4).on ha1
        rw [← hws] at hk1 hpb htw
        have HPB := Lib.hid hpb
        have HTW := Lib.hid htw
        have HK1 := Lib.hid hk1
        have HBX := Lib.hid (HB0.out.on hk1)
        have HWS := Lib.hid hws
        clear m1 m2 m3 m4 hk1 htw hws v0 v1 v2 v3 v4 v5 u0 u1 u2 u3 u4 u5 hpb ha1
        go_upto_region 2 with fail
        rw [← HWS.out]
        obtain ⟨⟨x0, x1, x2, x3, x4, x5⟩, ⟨y0, y1, y2, y3, y4, y5⟩, z0⟩ := HPB.out.c
        go_wp2_with fail
        refine (HT1.out _ _ _ HTW.out.atX).mono ?_
        rintro e w2 ⟨rfl, k2⟩
        have HS2 := Lib.hid k2
        clear k2
        have HBX := Lib.hid (HBX.out.on HS2.out)
        have HTW := Lib.hid (HTW.out.on HS2.out)
        have HPB := Lib.hid (HPB.out.same HS2.out (fun x => x))
        clear x0 x1 x2 x3 x4 x5 y0 y1 y2 y3 y4 y5 z0
        obtain ⟨⟨x0, x1, x2, x3, x4, x5⟩, ⟨y0, y1, y2, y3, y4, y5⟩, z0⟩ := HPB.out.c
        go_wp2_with fail
        refine (HT2.out _ _ _ HTW.out.atY).mono ?_
        rintro e w3 ⟨rfl, k3⟩
        have HS3 := Lib.hid k3
        clear k3
        have HBX := Lib.hid (HBX.out.on HS3.out)
        have HTW := Lib.hid (HTW.out.on HS3.out)
        have HPB := Lib.hid (HPB.out.same HS3.out (fun x => x))
        clear x0 x1 x2 x3 x4 x5 y0 y1 y2 y3 y4 y5 z0
        obtain ⟨⟨x0, x1, x2, x3, x4, x5⟩, ⟨y0, y1, y2, y3, y4, y5⟩, z0⟩ := HPB.out.c
        go_wp2_with fail
        refine (HC1.out _ HTW.out).mono ?_
        rintro e w4 ⟨v4, rfl, m4, k4⟩
        obtain ⟨a4, q4, rfl⟩ := m4.slice
        have hs4 := k4.alloc (.cells #[.int .i64 O1, .slice a4 (uvals L1).length q4] 28)
        have hm4 := m4.on ((Kept.refl (fun _ => False) w4).alloc (.cells #[.int .i64 O1, .slice a4 (uvals L1).length q4] 28))
        have hb4 := side_boxed w4 O1 (.slice a4 (uvals L1).length q4)
        obtain ⟨wx4, hwx4⟩ : ∃ w', w' = w4.alloc (.cells #[.int .i64 O1, .slice a4 (uvals L1).length q4] 28) := ⟨_, rfl⟩
        rw [← hwx4] at hs4 hm4 hb4
        have HS4 := Lib.hid hs4
        have HM4 := Lib.hid hm4
        have HSB4 := Lib.hid hb4
        have HWX4 := Lib.hid hwx4
        clear k4 m4 hs4 hm4 hb4 hwx4
        have HBX := Lib.hid (HBX.out.on HS4.out)
        have HTW := Lib.hid (HTW.out.on HS4.out)
        have HPB := Lib.hid (HPB.out.same HS4.out (fun x => x))
        clear x0 x1 x2 x3 x4 x5 y0 y1 y2 y3 y4 y5 z0
        go_upto_region 9 with fail
        rw [← HWX4.out]
        obtain ⟨⟨x0, x1, x2, x3, x4, x5⟩, ⟨y0, y1, y2, y3, y4, y5⟩, z0⟩ := HPB.out.c
        go_wp2_with fail
        refine (HC2.out _ HTW.out).mono ?_
        rintro e w5 ⟨v5, rfl, m5, k5⟩
        obtain ⟨a5, q5, rfl⟩ := m5.slice
        have hs5 := k5.alloc (.cells #[.int .i64 O2, .slice a5 (uvals L2).length q5] 28)
        have hm5 := m5.on ((Kept.refl (fun _ => False) w5).alloc (.cells #[.int .i64 O2, .slice a5 (uvals L2).length q5] 28))
        have hb5 := side_boxed w5 O2 (.slice a5 (uvals L2).length q5)
        obtain ⟨wx5, hwx5⟩ : ∃ w', w' = w5.alloc (.cells #[.int .i64 O2, .slice a5 (uvals L2).length q5] 28) := ⟨_, rfl⟩
        rw [← hwx5] at hs5 hm5 hb5
        have HS5 := Lib.hid hs5
        have HM5 := Lib.hid hm5
        have HSB5 := Lib.hid hb5
        have HWX5 := Lib.hid hwx5
        clear k5 m5 hs5 hm5 hb5 hwx5
        have HBX := Lib.hid (HBX.out.on HS5.out)
        have HTW := Lib.hid (HTW.out.on HS5.out)
        have HPB := Lib.hid (HPB.out.same HS5.out (fun x => x))
        have HM4 := Lib.hid (HM4.out.on HS5.out)
        have HSB4 := Lib.hid (HSB4.out.same HS5.out (fun x => x))
        clear x0 x1 x2 x3 x4 x5 y0 y1 y2 y3 y4 y5 z0
        go_upto_region 10 with fail
        rw [← HWX5.out]
        obtain ⟨⟨x0, x1, x2, x3, x4, x5⟩, ⟨y0, y1, y2, y3, y4, y5⟩, z0⟩ := HPB.out.c
        obtain ⟨⟨b40, b41⟩, _⟩ := HSB4.out.c
        obtain ⟨⟨b50, b51⟩, _⟩ := HSB5.out.c
        obtain ⟨s0, s1, s2, s3, s4, s5⟩ := HBX.out.r.c
        obtain ⟨g0, g1, g2, g3, g4, g5⟩ := HBX.out.r.f
        go_wp2
        refine hist_end (h := ⟨X.sc, ZE, O1, L1, O2, L2⟩) (pv := .slice a4 (uvals L1).length q4) (nv := .slice a5 (uvals L2).length q5) Try.results58 rfl rfl rfl (HBX.out.r.set ⟨X.sc, ZE, O1, L1, O2, L2⟩ _ _) ?_
        refine HGOOD.out _ _ _ ?_ ?_
        · exact (HM4.out.down HK0.out).set6 HBX.out.r (by omega) _ _ _ _ _ _
        · exact (HM5.out.down HK0.out).set6 HBX.out.r (by omega) _ _ _ _ _ _
      · rw [if_neg hs] at hE
        rw [if_neg (by omega)] at hRR
        have HBADS : Hid (∀ w', Kept (fun _ => False) w w' → HistNew w RR EE (.returned (.tuple #[histV zeroH (.slice none 0 0) (.slice none 0 0), .int .i64 1])) w') := Lib.hid fun w' k => by rw [hRR, hE]; exact HistNew.zero k
        by_cases hp1 : N1 ≤ 160
        · rw [decide_eq_true hp1] at HC1
          rw [decide_eq_false (show ¬ N2 ≤ 160 by omega)] at HC2
          clear hX hY hEL hlb k0 hw0 hlv hbad hright ha hb la1 la2 lb1 lb2 hE hz ex ey okx oky sx1 sx2 hx1 hx2 hx3 hy1 hy2 hy3 sx3 sx4 sx5 sx6 sy3 sy4 sy5 sy6 tx1 tx2 ty1 ty2 zx zy hTX hTY hZ hbig tsx tsy hN1 hN2 hZE hRR hs hp1
          obtain ⟨asc, aze, apo, apl, ano, anl⟩ := a
          obtain ⟨bsc, bze, bpo, bpl, bno, bnl⟩ := b
          unfold histV at HLV ⊢
          simp only at HLV HW0 ⊢
          go_enter Try.func58, Try.ntmps58
          go_upto_region 1 with fail
          rw [← HW0.out]
          obtain ⟨v0, v1, v2, v3, v4, v5⟩ := HB0.out.a.c
          obtain ⟨u0, u1, u2, u3, u4, u5⟩ := HB0.out.b.c
          go_wp2_with fail
          refine (HLV.out).mono ?_
          rintro e w1 ⟨p1, n1, p2, n2, rfl, m1, m2, m3, m4⟩
          obtain ⟨p1, q1, rfl⟩ := m1.slice
          obtain ⟨n1, r1, rfl⟩ := m2.slice
          obtain ⟨p2, q2, rfl⟩ := m3.slice
          obtain ⟨n2, r2, rfl⟩ := m4.slice
          unfold pairV
          dsimp only
          have hk1 := m1.kept.alloc (.cells #[.int .i64 X.sc, .int .u64 (X.ze : Int), .int .i64 X.po, .slice p1 (uvals X.pl).length q1, .int .i64 X.no, .slice n1 (uvals X.nl).length r1, .int .i64 Y.sc, .int .u64 (Y.ze : Int), .int .i64 Y.po, .slice p2 (uvals Y.pl).length q2, .int .i64 Y.no, .slice n2 (uvals Y.nl).length r2, .int .i64 (EL : Int)] 89)
          have ha1 := (Kept.refl (fun _ => False) w1).alloc (.cells #[.int .i64 X.sc, .int .u64 (X.ze : Int), .int .i64 X.po, .slice p1 (uvals X.pl).length q1, .int .i64 X.no, .slice n1 (uvals X.nl).length r1, .int .i64 Y.sc, .int .u64 (Y.ze : Int), .int .i64 Y.po, .slice p2 (uvals Y.pl).length q2, .int .i64 Y.no, .slice n2 (uvals Y.nl).length r2, .int .i64 (EL : Int)] 89)
          obtain ⟨ws, hws⟩ : ∃ ws, ws = w1.alloc (.cells #[.int .i64 X.sc, .int .u64 (X.ze : Int), .int .i64 X.po, .slice p1 (uvals X.pl).length q1, .int .i64 X.no, .slice n1 (uvals X.nl).length r1, .int .i64 Y.sc, .int .u64 (Y.ze : Int), .int .i64 Y.po, .slice p2 (uvals Y.pl).length q2, .int .i64 Y.no, .slice n2 (uvals Y.nl).length r2, .int .i64 (EL : Int)] 89) := ⟨_, rfl⟩
          have hpb := pair_boxed w1 X Y (.slice p1 (uvals X.pl).length q1) (.slice n1 (uvals X.nl).length r1) (.slice p2 (uvals Y.pl).length q2) (.slice n2 (uvals Y.nl).length r2) EL
          have htw := (Two2.mk m1 m2 m3 m4).on ha1
          rw [← hws] at hk1 hpb htw
          have HPB := Lib.hid hpb
          have HTW := Lib.hid htw
          have HK1 := Lib.hid hk1
          have HBX := Lib.hid (HB0.out.on hk1)
          have HWS := Lib.hid hws
          clear m1 m2 m3 m4 hk1 htw hws v0 v1 v2 v3 v4 v5 u0 u1 u2 u3 u4 u5 hpb ha1
          go_upto_region 2 with fail
          rw [← HWS.out]
          obtain ⟨⟨x0, x1, x2, x3, x4, x5⟩, ⟨y0, y1, y2, y3, y4, y5⟩, z0⟩ := HPB.out.c
          go_wp2_with fail
          refine (HT1.out _ _ _ HTW.out.atX).mono ?_
          rintro e w2 ⟨rfl, k2⟩
          have HS2 := Lib.hid k2
          clear k2
          have HBX := Lib.hid (HBX.out.on HS2.out)
          have HTW := Lib.hid (HTW.out.on HS2.out)
          have HPB := Lib.hid (HPB.out.same HS2.out (fun x => x))
          clear x0 x1 x2 x3 x4 x5 y0 y1 y2 y3 y4 y5 z0
          obtain ⟨⟨x0, x1, x2, x3, x4, x5⟩, ⟨y0, y1, y2, y3, y4, y5⟩, z0⟩ := HPB.out.c
          go_wp2_with fail
          refine (HT2.out _ _ _ HTW.out.atY).mono ?_
          rintro e w3 ⟨rfl, k3⟩
          have HS3 := Lib.hid k3
          clear k3
          have HBX := Lib.hid (HBX.out.on HS3.out)
          have HTW := Lib.hid (HTW.out.on HS3.out)
          have HPB := Lib.hid (HPB.out.same HS3.out (fun x => x))
          clear x0 x1 x2 x3 x4 x5 y0 y1 y2 y3 y4 y5 z0
          obtain ⟨⟨x0, x1, x2, x3, x4, x5⟩, ⟨y0, y1, y2, y3, y4, y5⟩, z0⟩ := HPB.out.c
          go_wp2_with fail
          refine (HC1.out _ HTW.out).mono ?_
          rintro e w4 ⟨v4, rfl, m4, k4⟩
          obtain ⟨a4, q4, rfl⟩ := m4.slice
          have hs4 := k4.alloc (.cells #[.int .i64 O1, .slice a4 (uvals L1).length q4] 28)
          have hm4 := m4.on ((Kept.refl (fun _ => False) w4).alloc (.cells #[.int .i64 O1, .slice a4 (uvals L1).length q4] 28))
          have hb4 := side_boxed w4 O1 (.slice a4 (uvals L1).length q4)
          obtain ⟨wx4, hwx4⟩ : ∃ w', w' = w4.alloc (.cells #[.int .i64 O1, .slice a4 (uvals L1).length q4] 28) := ⟨_, rfl⟩
          rw [← hwx4] at hs4 hm4 hb4
          have HS4 := Lib.hid hs4
          have HM4 := Lib.hid hm4
          have HSB4 := Lib.hid hb4
          have HWX4 := Lib.hid hwx4
          clear k4 m4 hs4 hm4 hb4 hwx4
          have HBX := Lib.hid (HBX.out.on HS4.out)
          have HTW := Lib.hid (HTW.out.on HS4.out)
          have HPB := Lib.hid (HPB.out.same HS4.out (fun x => x))
          clear x0 x1 x2 x3 x4 x5 y0 y1 y2 y3 y4 y5 z0
          go_upto_region 9 with fail
          rw [← HWX4.out]
          obtain ⟨⟨x0, x1, x2, x3, x4, x5⟩, ⟨y0, y1, y2, y3, y4, y5⟩, z0⟩ := HPB.out.c
          go_wp2_with fail
          refine (HC2.out _ HTW.out).mono ?_
          rintro e w5 ⟨v5, rfl, m5, k5⟩
          obtain ⟨a5, q5, rfl⟩ := m5.slice
          have hs5 := k5.alloc (.cells #[.int .i64 O2, .slice a5 (uvals L2).length q5] 28)
          have hm5 := m5.on ((Kept.refl (fun _ => False) w5).alloc (.cells #[.int .i64 O2, .slice a5 (uvals L2).length q5] 28))
          have hb5 := side_boxed w5 O2 (.slice a5 (uvals L2).length q5)
          obtain ⟨wx5, hwx5⟩ : ∃ w', w' = w5.alloc (.cells #[.int .i64 O2, .slice a5 (uvals L2).length q5] 28) := ⟨_, rfl⟩
          rw [← hwx5] at hs5 hm5 hb5
          have HS5 := Lib.hid hs5
          have HM5 := Lib.hid hm5
          have HSB5 := Lib.hid hb5
          have HWX5 := Lib.hid hwx5
          clear k5 m5 hs5 hm5 hb5 hwx5
          have HBX := Lib.hid (HBX.out.on HS5.out)
          have HTW := Lib.hid (HTW.out.on HS5.out)
          have HPB := Lib.hid (HPB.out.same HS5.out (fun x => x))
          have HM4 := Lib.hid (HM4.out.on HS5.out)
          have HSB4 := Lib.hid (HSB4.out.same HS5.out (fun x => x))
          clear x0 x1 x2 x3 x4 x5 y0 y1 y2 y3 y4 y5 z0
          go_upto_region 10 with fail
          rw [← HWX5.out]
          obtain ⟨⟨x0, x1, x2, x3, x4, x5⟩, ⟨y0, y1, y2, y3, y4, y5⟩, z0⟩ := HPB.out.c
          obtain ⟨s0, s1, s2, s3, s4, s5⟩ := HBX.out.r.c
          obtain ⟨g0, g1, g2, g3, g4, g5⟩ := HBX.out.r.f
          go_wp2
          refine hist_end (h := zeroH) (pv := .slice none 0 0) (nv := .slice none 0 0) Try.results58 rfl rfl rfl (HBX.out.r.set zeroH (.slice none 0 0) (.slice none 0 0)) ?_
          exact HBADS.out _ ((HK0.out.trans HTW.out.p1.kept).newer (set6_kept _ _ _ _ _ _ _ _) (fun i e => by omega))
        · rw [decide_eq_false hp1] at HC1
          obtain ⟨K2, hK2⟩ : ∃ K, K = decide (N2 ≤ 160) := ⟨_, rfl⟩
          rw [← hK2] at HC2
          clear hX hY hEL hlb k0 hw0 hlv hbad hright ha hb la1 la2 lb1 lb2 hE hz ex ey okx oky sx1 sx2 hx1 hx2 hx3 hy1 hy2 hy3 sx3 sx4 sx5 sx6 sy3 sy4 sy5 sy6 tx1 tx2 ty1 ty2 zx zy hTX hTY hZ hbig tsx tsy hN1 hN2 hZE hRR hs hp1 hK2
          obtain ⟨asc, aze, apo, apl, ano, anl⟩ := a
          obtain ⟨bsc, bze, bpo, bpl, bno, bnl⟩ := b
          unfold histV at HLV ⊢
          simp only at HLV HW0 ⊢
          go_enter Try.func58, Try.ntmps58
          go_upto_region 1 with fail
          rw [← HW0.out]
          obtain ⟨v0, v1, v2, v3, v4, v5⟩ := HB0.out.a.c
          obtain ⟨u0, u1, u2, u3, u4, u5⟩ := HB0.out.b.c
          go_wp2_with fail
          refine (HLV.out).mono ?_
          rintro e w1 ⟨p1, n1, p2, n2, rfl, m1, m2, m3, m4⟩
          obtain ⟨p1, q1, rfl⟩ := m1.slice
          obtain ⟨n1, r1, rfl⟩ := m2.slice
          obtain ⟨p2, q2, rfl⟩ := m3.slice
          obtain ⟨n2, r2, rfl⟩ := m4.slice
          unfold pairV
          dsimp only
          have hk1 := m1.kept.alloc (.cells #[.int .i64 X.sc, .int .u64 (X.ze : Int), .int .i64 X.po, .slice p1 (uvals X.pl).length q1, .int .i64 X.no, .slice n1 (uvals X.nl).length r1, .int .i64 Y.sc, .int .u64 (Y.ze : Int), .int .i64 Y.po, .slice p2 (uvals Y.pl).length q2, .int .i64 Y.no, .slice n2 (uvals Y.nl).length r2, .int .i64 (EL : Int)] 89)
          have ha1 := (Kept.refl (fun _ => False) w1).alloc (.cells #[.int .i64 X.sc, .int .u64 (X.ze : Int), .int .i64 X.po, .slice p1 (uvals X.pl).length q1, .int .i64 X.no, .slice n1 (uvals X.nl).length r1, .int .i64 Y.sc, .int .u64 (Y.ze : Int), .int .i64 Y.po, .slice p2 (uvals Y.pl).length q2, .int .i64 Y.no, .slice n2 (uvals Y.nl).length r2, .int .i64 (EL : Int)] 89)
          obtain ⟨ws, hws⟩ : ∃ ws, ws = w1.alloc (.cells #[.int .i64 X.sc, .int .u64 (X.ze : Int), .int .i64 X.po, .slice p1 (uvals X.pl).length q1, .int .i64 X.no, .slice n1 (uvals X.nl).length r1, .int .i64 Y.sc, .int .u64 (Y.ze : Int), .int .i64 Y.po, .slice p2 (uvals Y.pl).length q2, .int .i64 Y.no, .slice n2 (uvals Y.nl).length r2, .int .i64 (EL : Int)] 89) := ⟨_, rfl⟩
          have hpb := pair_boxed w1 X Y (.slice p1 (uvals X.pl).length q1) (.slice n1 (uvals X.nl).length r1) (.slice p2 (uvals Y.pl).length q2) (.slice n2 (uvals Y.nl).length r2) EL
          have htw := (Two2.mk m1 m2 m3 m4).on ha1
          rw [← hws] at hk1 hpb htw
          have HPB := Lib.hid hpb
          have HTW := Lib.hid htw
          have HK1 := Lib.hid hk1
          have HBX := Lib.hid (HB0.out.on hk1)
          have HWS := Lib.hid hws
          clear m1 m2 m3 m4 hk1 htw hws v0 v1 v2 v3 v4 v5 u0 u1 u2 u3 u4 u5 hpb ha1
          go_upto_region 2 with fail
          rw [← HWS.out]
          obtain ⟨⟨x0, x1, x2, x3, x4, x5⟩, ⟨y0, y1, y2, y3, y4, y5⟩, z0⟩ := HPB.out.c
          go_wp2_with fail
          refine (HT1.out _ _ _ HTW.out.atX).mono ?_
          rintro e w2 ⟨rfl, k2⟩
          have HS2 := Lib.hid k2
          clear k2
          have HBX := Lib.hid (HBX.out.on HS2.out)
          have HTW := Lib.hid (HTW.out.on HS2.out)
          have HPB := Lib.hid (HPB.out.same HS2.out (fun x => x))
          clear x0 x1 x2 x3 x4 x5 y0 y1 y2 y3 y4 y5 z0
          obtain ⟨⟨x0, x1, x2, x3, x4, x5⟩, ⟨y0, y1, y2, y3, y4, y5⟩, z0⟩ := HPB.out.c
          go_wp2_with fail
          refine (HT2.out _ _ _ HTW.out.atY).mono ?_
          rintro e w3 ⟨rfl, k3⟩
          have HS3 := Lib.hid k3
          clear k3
          have HBX := Lib.hid (HBX.out.on HS3.out)
          have HTW := Lib.hid (HTW.out.on HS3.out)
          have HPB := Lib.hid (HPB.out.same HS3.out (fun x => x))
          clear x0 x1 x2 x3 x4 x5 y0 y1 y2 y3 y4 y5 z0
          obtain ⟨⟨x0, x1, x2, x3, x4, x5⟩, ⟨y0, y1, y2, y3, y4, y5⟩, z0⟩ := HPB.out.c
          go_wp2_with fail
          refine (HC1.out _ HTW.out).mono ?_
          rintro e w4 ⟨v4, rfl, m4, k4⟩
          obtain ⟨a4, q4, rfl⟩ := m4.slice
          have hs4 := k4.alloc (.cells #[.int .i64 O1, .slice a4 (uvals L1).length q4] 28)
          have hm4 := m4.on ((Kept.refl (fun _ => False) w4).alloc (.cells #[.int .i64 O1, .slice a4 (uvals L1).length q4] 28))
          have hb4 := side_boxed w4 O1 (.slice a4 (uvals L1).length q4)
          obtain ⟨wx4, hwx4⟩ : ∃ w', w' = w4.alloc (.cells #[.int .i64 O1, .slice a4 (uvals L1).length q4] 28) := ⟨_, rfl⟩
          rw [← hwx4] at hs4 hm4 hb4
          have HS4 := Lib.hid hs4
          have HM4 := Lib.hid hm4
          have HSB4 := Lib.hid hb4
          have HWX4 := Lib.hid hwx4
          clear k4 m4 hs4 hm4 hb4 hwx4
          have HBX := Lib.hid (HBX.out.on HS4.out)
          have HTW := Lib.hid (HTW.out.on HS4.out)
          have HPB := Lib.hid (HPB.out.same HS4.out (fun x => x))
          clear x0 x1 x2 x3 x4 x5 y0 y1 y2 y3 y4 y5 z0
          go_upto_region 9 with fail
          rw [← HWX4.out]
          obtain ⟨⟨x0, x1, x2, x3, x4, x5⟩, ⟨y0, y1, y2, y3, y4, y5⟩, z0⟩ := HPB.out.c
          go_wp2_with fail
          refine (HC2.out _ HTW.out).mono ?_
          rintro e w5 ⟨v5, rfl, m5, k5⟩
          obtain ⟨a5, q5, rfl⟩ := m5.slice
          have hs5 := k5.alloc (.cells #[.int .i64 O2, .slice a5 (uvals L2).length q5] 28)
          have hm5 := m5.on ((Kept.refl (fun _ => False) w5).alloc (.cells #[.int .i64 O2, .slice a5 (uvals L2).length q5] 28))
          have hb5 := side_boxed w5 O2 (.slice a5 (uvals L2).length q5)
          obtain ⟨wx5, hwx5⟩ : ∃ w', w' = w5.alloc (.cells #[.int .i64 O2, .slice a5 (uvals L2).length q5] 28) := ⟨_, rfl⟩
          rw [← hwx5] at hs5 hm5 hb5
          have HS5 := Lib.hid hs5
          have HM5 := Lib.hid hm5
          have HSB5 := Lib.hid hb5
          have HWX5 := Lib.hid hwx5
          clear k5 m5 hs5 hm5 hb5 hwx5
          have HBX := Lib.hid (HBX.out.on HS5.out)
          have HTW := Lib.hid (HTW.out.on HS5.out)
          have HPB := Lib.hid (HPB.out.same HS5.out (fun x => x))
          have HM4 := Lib.hid (HM4.out.on HS5.out)
          have HSB4 := Lib.hid (HSB4.out.same HS5.out (fun x => x))
          clear x0 x1 x2 x3 x4 x5 y0 y1 y2 y3 y4 y5 z0
          go_upto_region 10 with fail
          rw [← HWX5.out]
          obtain ⟨⟨x0, x1, x2, x3, x4, x5⟩, ⟨y0, y1, y2, y3, y4, y5⟩, z0⟩ := HPB.out.c
          obtain ⟨s0, s1, s2, s3, s4, s5⟩ := HBX.out.r.c
          obtain ⟨g0, g1, g2, g3, g4, g5⟩ := HBX.out.r.f
          go_wp2
          refine hist_end (h := zeroH) (pv := .slice none 0 0) (nv := .slice none 0 0) Try.results58 rfl rfl rfl (HBX.out.r.set zeroH (.slice none 0 0) (.slice none 0 0)) ?_
          exact HBADS.out _ ((HK0.out.trans HTW.out.p1.kept).newer (set6_kept _ _ _ _ _ _ _ _) (fun i e => by omega))
  · have qE : ((EL : Int) != 0) = true := bneT (by omega)
    rw [if_pos hz] at hE
    obtain ⟨e1, e2⟩ := hbad (by omega)
    have HBADE : Hid (∀ w', Kept (fun _ => False) w w' → HistNew w (if EE = 0 then mgH2 X Y else zeroH) EE (.returned (.tuple #[histV zeroH (.slice none 0 0) (.slice none 0 0), .int .i64 (EL : Int)])) w') := Lib.hid fun w' k => by rw [if_neg (by omega), hE]; exact HistNew.zero k
    obtain ⟨RR, hRR⟩ : ∃ R, R = if EE = 0 then mgH2 X Y else zeroH := ⟨_, rfl⟩
    rw [← hRR] at HBADE ⊢
    clear hX hY hEL hlb k0 hw0 hlv hbad hright ha hb la1 la2 lb1 lb2 hE hz e1 e2 hRR
    obtain ⟨asc, aze, apo, apl, ano, anl⟩ := a
    obtain ⟨bsc, bze, bpo, bpl, bno, bnl⟩ := b
    unfold histV at HLV ⊢
    simp only at HLV HW0 ⊢
    go_enter Try.func58, Try.ntmps58
    go_upto_region 1 with fail
    rw [← HW0.out]
    obtain ⟨v0, v1, v2, v3, v4, v5⟩ := HB0.out.a.c
    obtain ⟨u0, u1, u2, u3, u4, u5⟩ := HB0.out.b.c
    go_wp2_with fail
    refine (HLV.out).mono ?_
    rintro e w1 ⟨p1, n1, p2, n2, rfl, m1, m2, m3, m4⟩
    obtain ⟨p1, q1, rfl⟩ := m1.slice
    obtain ⟨n1, r1, rfl⟩ := m2.slice
    obtain ⟨p2, q2, rfl⟩ := m3.slice
    obtain ⟨n2, r2, rfl⟩ := m4.slice
    have HK1S := Lib.hid (show w0.heap.size ≤ w1.heap.size from m1.kept.size)
    unfold pairV
    dsimp only
    have hk1 := m1.kept.alloc (.cells #[.int .i64 X.sc, .int .u64 (X.ze : Int), .int .i64 X.po, .slice p1 (uvals X.pl).length q1, .int .i64 X.no, .slice n1 (uvals X.nl).length r1, .int .i64 Y.sc, .int .u64 (Y.ze : Int), .int .i64 Y.po, .slice p2 (uvals Y.pl).length q2, .int .i64 Y.no, .slice n2 (uvals Y.nl).length r2, .int .i64 (EL : Int)] 89)
    have ha1 := (Kept.refl (fun _ => False) w1).alloc (.cells #[.int .i64 X.sc, .int .u64 (X.ze : Int), .int .i64 X.po, .slice p1 (uvals X.pl).length q1, .int .i64 X.no, .slice n1 (uvals X.nl).length r1, .int .i64 Y.sc, .int .u64 (Y.ze : Int), .int .i64 Y.po, .slice p2 (uvals Y.pl).length q2, .int .i64 Y.no, .slice n2 (uvals Y.nl).length r2, .int .i64 (EL : Int)] 89)
    obtain ⟨ws, hws⟩ : ∃ ws, ws = w1.alloc (.cells #[.int .i64 X.sc, .int .u64 (X.ze : Int), .int .i64 X.po, .slice p1 (uvals X.pl).length q1, .int .i64 X.no, .slice n1 (uvals X.nl).length r1, .int .i64 Y.sc, .int .u64 (Y.ze : Int), .int .i64 Y.po, .slice p2 (uvals Y.pl).length q2, .int .i64 Y.no, .slice n2 (uvals Y.nl).length r2, .int .i64 (EL : Int)] 89) := ⟨_, rfl⟩
    have hpb := pair_boxed w1 X Y (.slice p1 (uvals X.pl).length q1) (.slice n1 (uvals X.nl).length r1) (.slice p2 (uvals Y.pl).length q2) (.slice n2 (uvals Y.nl).length r2) EL
    have htw := (Two2.mk m1 m2 m3 m4).on ha1
    rw [← hws] at hk1 hpb htw
    have HPB := Lib.hid hpb
    have HTW := Lib.hid htw
    have HK1 := Lib.hid hk1
    have HBX := Lib.hid (HB0.out.on hk1)
    have HWS := Lib.hid hws
    clear m1 m2 m3 m4 hk1 htw hws v0 v1 v2 v3 v4 v5 u0 u1 u2 u3 u4 u5 hpb ha1
    go_upto_region 2 with fail
    rw [← HWS.out]
    obtain ⟨_, _, z0⟩ := HPB.out.c
    go_upto_region 3 with fail
    obtain ⟨s0, s1, s2, s3, s4, s5⟩ := HBX.out.r.c
    obtain ⟨g0, g1, g2, g3, g4, g5⟩ := HBX.out.r.f
    have HNE : Hid (¬ w1.heap.size = w.heap.size + 1 + 1) := Lib.hid (by have h0 := HB0.out.r; have h1 := (Array.getElem?_eq_some_iff.1 h0).1; have h2 := HK1S.out; omega)
    have HPD := Lib.hid (HPB.out.same ((Kept.refl (fun _ => False) ws).drew) (fun x => x))
    have HBD := Lib.hid (HBX.out.on ((Kept.refl (fun _ => False) ws).drew))
    refine AnyBut.start (S := fun w' => w'.cell? ⟨w1.heap.size, 12, none⟩ = some (.int .i64 (EL : Int))) (k := 4) (by kernel_rfl) ?_
    refine AnyBut.take (i := 0) (v := ?v1) rfl (by kernel_rfl) (by kernel_rfl) (by kernel_rfl) (by kernel_rfl) (fun _ _ _ h => h) (HPD.out.c.2.2) (Or.inl ⟨by rfl, ?hy1⟩) ?r1
    case hy1 =>
      intro w hSw
      try dsimp only at hSw
      go_simp
      try with_reducible rfl
    try simp only [Act.put, List.setIfInBounds_toArray]
    refine AnyBut.take (i := 1) (v := ?v2) rfl (by kernel_rfl) (by kernel_rfl) (by kernel_rfl) (by kernel_rfl) (fun _ _ _ h => h) (HPD.out.c.2.2) (Or.inl ⟨by rfl, ?hy2⟩) ?r2
    case hy2 =>
      intro w hSw
      try dsimp only at hSw
      go_simp
      try with_reducible rfl
    try simp only [Act.put]
    refine AnyBut.take (i := 2) (v := ?v3) rfl (by kernel_rfl) (by kernel_rfl) (by kernel_rfl) (by kernel_rfl) (fun _ _ _ h => h) (HPD.out.c.2.2) (Or.inl ⟨by rfl, ?hy3⟩) ?r3
    case hy3 =>
      intro w hSw
      try dsimp only at hSw
      go_simp
      try with_reducible rfl
    try simp only [Act.put]
    refine AnyBut.one (i := 3) (by kernel_rfl) rfl (fun K hK => ?_)
    go_simp
    have HPE := Lib.hid ((HPB.out.same (set6_kept ws (w.heap.size + 1 + 1) (.int .i64 0) (.int .u64 0) (.int .i64 0) (.slice none 0 0) (.int .i64 0) (.slice none 0 0)) HNE.out).same ((Kept.refl (fun _ => False) _).drew) (fun x => x))
    refine hK.out _ _ (HPE.out.c.2.2) ?_
    clear hK K
    try simp only [Act.put, List.setIfInBounds_toArray, List.set_cons_zero, List.set_cons_succ]
    refine AnyBut.last (by kernel_rfl) rfl (by kernel_rfl) (fun K hK => ?_)
    go_simp
    refine hK.out _ _ ?_
    clear hK K
    try simp only [Act.put, List.setIfInBounds_toArray, List.set_cons_zero, List.set_cons_succ]
    go_wp2
    refine hist_end (h := zeroH) (pv := .slice none 0 0) (nv := .slice none 0 0) Try.results58 rfl rfl rfl ((HBX.out.r.set zeroH (.slice none 0 0) (.slice none 0 0)).same ((Kept.refl (fun _ => False) _).drew) (fun x => x)) ?_
    exact HBADE.out _ (((HK0.out.trans HTW.out.p1.kept).newer (set6_kept _ _ _ _ _ _ _ _) (fun i e => by omega)).drew)
end Go.Proofs.Ytiiibhdohlpodaa

