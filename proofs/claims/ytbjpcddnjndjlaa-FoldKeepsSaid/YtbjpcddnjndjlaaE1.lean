/- package fold: Level. -/
import Derived.Test.YtbjpcddnjndjlaaE0
import Derived.RegionTactic
import Derived.BigRegion
namespace Go.Proofs.Ytbjpcddnjndjlaa
open Go.RowKit
attribute [local go_sem ↓] Go.wp_at_zero Go.wp_at_succ

theorem LevBox.both {w wr : World} {a b x y : HistV} {ap an bp bn xp xn yp yn : Value} (h : LevBox w wr a b x y ap an bp bn xp xn yp yn) (X Y : HistV) (p1 n1 p2 n2 : Value) :
    HistBox (set6 (set6 wr (w.heap.size + 1 + 1) (.int .i64 X.sc) (.int .u64 (X.ze : Int)) (.int .i64 X.po) p1 (.int .i64 X.no) n1) (w.heap.size + 1 + 1 + 1) (.int .i64 Y.sc) (.int .u64 (Y.ze : Int)) (.int .i64 Y.po) p2 (.int .i64 Y.no) n2) (w.heap.size + 1 + 1) X p1 n1 ∧
    HistBox (set6 (set6 wr (w.heap.size + 1 + 1) (.int .i64 X.sc) (.int .u64 (X.ze : Int)) (.int .i64 X.po) p1 (.int .i64 X.no) n1) (w.heap.size + 1 + 1 + 1) (.int .i64 Y.sc) (.int .u64 (Y.ze : Int)) (.int .i64 Y.po) p2 (.int .i64 Y.no) n2) (w.heap.size + 1 + 1 + 1) Y p2 n2 :=
  ⟨(h.x.set X p1 n1).same (set6_kept _ _ _ _ _ _ _ _) (by omega), HistBox.set (h.y.same (set6_kept _ _ _ _ _ _ _ _) (by omega)) Y p2 n2⟩
theorem kept_two {w wr : World} (k : Kept (fun _ => False) w wr) (q q2 : Nat) (h1 : w.heap.size ≤ q) (h2 : w.heap.size ≤ q2) (a b c d e f a' b' c' d' e' f' : Value) : Kept (fun _ => False) w (set6 (set6 wr q a b c d e f) q2 a' b' c' d' e' f') :=
  (k.step6 q a b c d e f h1).step6 q2 a' b' c' d' e' f' h2
theorem lev_bad_out {w w' : World} {a b : HistV} {E : Nat} (hE : levE a b = E) (h0 : E ≠ 0) (k : Kept (fun _ => False) w w') : LevOut w (levX a b) (levY a b) (levE a b) (.returned (.tuple #[histV zeroH (.slice none 0 0) (.slice none 0 0), histV zeroH (.slice none 0 0) (.slice none 0 0), .int .i64 (E : Int)])) w' := by
  obtain ⟨e1, e2⟩ := lev_bad (a := a) (b := b) (by omega)
  rw [e1, e2, hE]
  exact ⟨_, _, _, _, rfl, Mine.nil' _ k, Mine.nil' _ k, Mine.nil' _ k, Mine.nil' _ k⟩

set_option maxHeartbeats 4000000 in
set_option maxRecDepth 100000 in
theorem foldLevel_any (a b : HistV) (ap an bp bn : Value) (w : World) (ha : HistAt w a ap an) (hb : HistAt w b bp bn) (oka : a.ok) (okb : b.ok) (la1 : a.pl.length ≤ 1000000) (la2 : a.nl.length ≤ 1000000) (lb1 : b.pl.length ≤ 1000000) (lb2 : b.nl.length ≤ 1000000) :
    Calls Try.prog 28 #[histV a ap an, histV b bp bn] w (LevOut w (levX a b) (levY a b) (levE a b)) := by
  obtain ⟨⟨ao, c, rfl⟩, a1, c1, rfl⟩ := ha.sl
  obtain ⟨⟨bo, d, rfl⟩, b1, d1, rfl⟩ := hb.sl
  have hlb := LevBox.mk0 w a b (.slice ao a.pl.length c) (.slice a1 a.nl.length c1) (.slice bo b.pl.length d) (.slice b1 b.nl.length d1)
  obtain ⟨w0, hw0⟩ : ∃ w0, w0 = ((((w.alloc (.cells #[.int .i64 a.sc, .int .u64 (a.ze : Int), .int .i64 a.po, .slice ao a.pl.length c, .int .i64 a.no, .slice a1 a.nl.length c1] 27)).alloc (.cells #[.int .i64 b.sc, .int .u64 (b.ze : Int), .int .i64 b.po, .slice bo b.pl.length d, .int .i64 b.no, .slice b1 b.nl.length d1] 27)).alloc (.cells #[.int .i64 0, .int .u64 0, .int .i64 0, .slice none 0 0, .int .i64 0, .slice none 0 0] 27)).alloc (.cells #[.int .i64 0, .int .u64 0, .int .i64 0, .slice none 0 0, .int .i64 0, .slice none 0 0] 27)) := ⟨_, rfl⟩
  rw [← hw0] at hlb
  have k0 : Kept (fun _ => False) w w0 := by rw [hw0]; exact ((((Kept.refl _ w).alloc _).alloc _).alloc _).alloc _
  have HK0 := Lib.hid k0
  have HLB := Lib.hid hlb
  have HCA := Lib.hid fun w' (k : Kept (fun _ => False) w w') => histCheck_any a _ _ w' (ha.on k) oka la1 la2
  have HCB := Lib.hid fun w' (k : Kept (fun _ => False) w w') => histCheck_any b _ _ w' (hb.on k) okb lb1 lb2
  have hsca := oka.sc
  have hscb := okb.sc
  have HBAD := Lib.hid fun w' E (hE : levE a b = E) (h0 : E ≠ 0) (k : Kept (fun _ => False) w w') => lev_bad_out hE h0 k
  have HLE := Lib.hid (show levE a b = if a.err ≠ 0 then a.err else b.err from rfl)
  obtain ⟨Ea, hEa⟩ : ∃ E, E = a.err := ⟨_, rfl⟩
  obtain ⟨Eb, hEb⟩ : ∃ E, E = b.err := ⟨_, rfl⟩
  rw [← hEa] at HCA HLE
  rw [← hEb] at HCB HLE
  have HEA := Lib.hid hEa
  have HEB := Lib.hid hEb
  have HOK := Lib.hid (And.intro oka okb)
  have HL := Lib.hid (And.intro (And.intro la1 la2) (And.intro lb1 lb2))
  have HHA := Lib.hid ha
  have HHB := Lib.hid hb
  obtain ⟨X, hX⟩ : ∃ X, X = levX a b := ⟨_, rfl⟩
  obtain ⟨Y, hY⟩ : ∃ Y, Y = levY a b := ⟨_, rfl⟩
  have HD1 : Hid (Ea = 0 → Eb = 0 → ∀ w', Kept (fun _ => False) w w' → Calls Try.prog 22 #[histV a (.slice ao a.pl.length c) (.slice a1 a.nl.length c1), .int .i64 (a.sc - min a.sc b.sc)] w' (HistOut w' X 0)) := Lib.hid fun e1 e2 w' k => by
    obtain ⟨g1, g2, g3, g4, g5⟩ := lev_good (a := a) (b := b) (by omega) (by omega)
    have := histDown_any a (a.sc - levS a b) _ _ w' (ha.on k) oka la1 la2 (by have h1 := err_light (h := a) (by omega); have h2 := err_light (h := b) (by omega); have := levS_min a b; unfold I64; omega)
    rw [g2, ← g4, ← hX, levS_min] at this
    exact this
  have HD2 : Hid (Ea = 0 → Eb = 0 → ∀ w', Kept (fun _ => False) w w' → Calls Try.prog 22 #[histV b (.slice bo b.pl.length d) (.slice b1 b.nl.length d1), .int .i64 (b.sc - min a.sc b.sc)] w' (HistOut w' Y 0)) := Lib.hid fun e1 e2 w' k => by
    obtain ⟨g1, g2, g3, g4, g5⟩ := lev_good (a := a) (b := b) (by omega) (by omega)
    have := histDown_any b (b.sc - levS a b) _ _ w' (hb.on k) okb lb1 lb2 (by have h1 := err_light (h := a) (by omega); have h2 := err_light (h := b) (by omega); have := levS_min a b; unfold I64; omega)
    rw [g3, ← g5, ← hY, levS_min] at this
    exact this
  have HSC : Hid (Ea = 0 → Eb = 0 → (-10 ≤ a.sc ∧ a.sc ≤ 20) ∧ (-10 ≤ b.sc ∧ b.sc ≤ 20) ∧ levE a b = 0) := Lib.hid fun e1 e2 => ⟨(err_light (by omega)).1, (err_light (by omega)).1, (lev_good (by omega) (by omega)).1⟩
  rw [← hX, ← hY] at HBAD ⊢
  obtain ⟨EL, hEL⟩ : ∃ E, E = levE a b := ⟨_, rfl⟩
  rw [← hEL] at HBAD HLE HSC ⊢
  clear hX hY hEL hEa hEb ha hb oka okb la1 la2 lb1 lb2 hlb k0
  obtain ⟨asc, aze, apo, apl, ano, anl⟩ := a
  obtain ⟨bsc, bze, bpo, bpl, bno, bnl⟩ := b
  unfold histV at HCA HCB HD1 HD2 ⊢
  simp only at HCA HCB HD1 HD2 HSC hw0 hsca hscb ⊢
  have i0 : ∀ w, (Instr.index 61 (.agg #[.int .i64 asc, .int .u64 (aze : Int), .int .i64 apo, .slice ao apl.length c, .int .i64 ano, .slice a1 anl.length c1, .int .i64 bsc, .int .u64 (bze : Int), .int .i64 bpo, .slice bo bpl.length d, .int .i64 bno, .slice b1 bnl.length d1]) (.int .i64 0)).run Try.prog w = .ok (.agg #[.int .i64 asc, .int .u64 (aze : Int), .int .i64 apo, .slice ao apl.length c, .int .i64 ano, .slice a1 anl.length c1]) w := fun _ => by kernel_rfl
  have i1 : ∀ w, (Instr.index 61 (.agg #[.int .i64 asc, .int .u64 (aze : Int), .int .i64 apo, .slice ao apl.length c, .int .i64 ano, .slice a1 anl.length c1, .int .i64 bsc, .int .u64 (bze : Int), .int .i64 bpo, .slice bo bpl.length d, .int .i64 bno, .slice b1 bnl.length d1]) (.int .i64 1)).run Try.prog w = .ok (.agg #[.int .i64 bsc, .int .u64 (bze : Int), .int .i64 bpo, .slice bo bpl.length d, .int .i64 bno, .slice b1 bnl.length d1]) w := fun _ => by kernel_rfl
  have HW0 := Lib.hid hw0
  clear hw0
  go_enter Try.func28, Try.ntmps28
  go_wp2
  rw [← HW0.out]
  go_loopg [8, 9, 14, 15, 16, 17, 18, 19, 20, 21, 22, 23, 24] 2 (fun g s8 s9 s14 s15 s16 s17 s18 s19 s20 s21 s22 s23 s24 wr => ∃ k : Nat, k ≤ 2 ∧ g = 2 - k ∧ s14 = .int .i64 k ∧ (k = 0 ∨ k = 1 ∧ Ea = 0 ∨ k = 2 ∧ Ea = 0 ∧ Eb = 0) ∧ Kept (fun _ => False) w0 wr)
  case atStart => exact ⟨0, by omega, rfl, rfl, .inl rfl, Kept.refl _ _⟩
  case round =>
    obtain ⟨k, hk2, rfl, rfl, hcase, hkw⟩ := hrel
    have HK := Lib.hid hkw
    clear hkw
    rcases hcase with rfl | ⟨rfl, z1⟩ | ⟨rfl, z1, z2⟩
    · by_cases z : Ea = 0
      · have q : ((Ea : Int) != 0) = false := bneF (by omega)
        have Z := Lib.hid z
        clear z
        go_wp2_with (go_at_call 16; refine (HCA.out _ ((HK0.out.trans HK.out).alloc (.cells #[.int .i64 asc, .int .u64 (aze : Int), .int .i64 apo, .slice ao apl.length c, .int .i64 ano, .slice a1 anl.length c1] 27))).mono ?_; rintro e w1 ⟨rfl, k1⟩; have HK1 := Lib.hid ((HK.out.alloc (.cells #[.int .i64 asc, .int .u64 (aze : Int), .int .i64 apo, .slice ao apl.length c, .int .i64 ano, .slice a1 anl.length c1] 27)).trans k1); clear k1)
        go_roundg 1
        case measure => omega
        case rel => exact ⟨1, by omega, rfl, by rfl, .inr (.inl ⟨rfl, Z.out⟩), HK1.out⟩
      · have q : ((Ea : Int) != 0) = true := bneT (by omega)
        have Z := Lib.hid z
        clear z
        go_wp2_with (go_at_call 16; refine (HCA.out _ ((HK0.out.trans HK.out).alloc (.cells #[.int .i64 asc, .int .u64 (aze : Int), .int .i64 apo, .slice ao apl.length c, .int .i64 ano, .slice a1 anl.length c1] 27))).mono ?_; rintro e w1 ⟨rfl, k1⟩; have HK1 := Lib.hid ((HK.out.alloc (.cells #[.int .i64 asc, .int .u64 (aze : Int), .int .i64 apo, .slice ao apl.length c, .int .i64 ano, .slice a1 anl.length c1] 27)).trans k1); clear k1; have HLB1 := Lib.hid (HLB.out.on HK1.out); obtain ⟨x0, x1, x2, x3, x4, x5⟩ := HLB1.out.x.c; obtain ⟨y0, y1, y2, y3, y4, y5⟩ := HLB1.out.y.c; obtain ⟨f0, f1, f2, f3, f4, f5⟩ := HLB1.out.x.f; obtain ⟨g0, g1, g2, g3, g4, g5⟩ := HLB1.out.y.f)
        refine lev_end (h := zeroH) (h2 := zeroH) Try.results28 rfl rfl rfl rfl (HLB1.out.both zeroH zeroH (.slice none 0 0) (.slice none 0 0) (.slice none 0 0) (.slice none 0 0)).1 (HLB1.out.both zeroH zeroH (.slice none 0 0) (.slice none 0 0) (.slice none 0 0) (.slice none 0 0)).2 ?_
        exact HBAD.out _ Ea (by rw [HLE.out, if_pos Z.out]) Z.out (kept_two (HK0.out.trans HK1.out) _ _ (by omega) (by omega) _ _ _ _ _ _ _ _ _ _ _ _)
    · by_cases z : Eb = 0
      · have q : ((Eb : Int) != 0) = false := bneF (by omega)
        have Z := Lib.hid (And.intro z1 z)
        clear z z1
        go_wp2_with (go_at_call 16; refine (HCB.out _ ((HK0.out.trans HK.out).alloc (.cells #[.int .i64 bsc, .int .u64 (bze : Int), .int .i64 bpo, .slice bo bpl.length d, .int .i64 bno, .slice b1 bnl.length d1] 27))).mono ?_; rintro e w1 ⟨rfl, k1⟩; have HK1 := Lib.hid ((HK.out.alloc (.cells #[.int .i64 bsc, .int .u64 (bze : Int), .int .i64 bpo, .slice bo bpl.length d, .int .i64 bno, .slice b1 bnl.length d1] 27)).trans k1); clear k1)
        go_roundg 0
        case measure => omega
        case rel => exact ⟨2, by omega, rfl, by rfl, .inr (.inr ⟨rfl, Z.out.1, Z.out.2⟩), HK1.out⟩
      · have q : ((Eb : Int) != 0) = true := bneT (by omega)
        have Z := Lib.hid (And.intro z1 z)
        clear z z1
        go_wp2_with (go_at_call 16; refine (HCB.out _ ((HK0.out.trans HK.out).alloc (.cells #[.int .i64 bsc, .int .u64 (bze : Int), .int .i64 bpo, .slice bo bpl.length d, .int .i64 bno, .slice b1 bnl.length d1] 27))).mono ?_; rintro e w1 ⟨rfl, k1⟩; have HK1 := Lib.hid ((HK.out.alloc (.cells #[.int .i64 bsc, .int .u64 (bze : Int), .int .i64 bpo, .slice bo bpl.length d, .int .i64 bno, .slice b1 bnl.length d1] 27)).trans k1); clear k1; have HLB1 := Lib.hid (HLB.out.on HK1.out); obtain ⟨x0, x1, x2, x3, x4, x5⟩ := HLB1.out.x.c; obtain ⟨y0, y1, y2, y3, y4, y5⟩ := HLB1.out.y.c; obtain ⟨f0, f1, f2, f3, f4, f5⟩ := HLB1.out.x.f; obtain ⟨g0, g1, g2, g3, g4, g5⟩ := HLB1.out.y.f)
        refine lev_end (h := zeroH) (h2 := zeroH) Try.results28 rfl rfl rfl rfl (HLB1.out.both zeroH zeroH (.slice none 0 0) (.slice none 0 0) (.slice none 0 0) (.slice none 0 0)).1 (HLB1.out.both zeroH zeroH (.slice none 0 0) (.slice none 0 0) (.slice none 0 0) (.slice none 0 0)).2 ?_
        exact HBAD.out _ Eb (by rw [HLE.out, Z.out.1]; rfl) Z.out.2 (kept_two (HK0.out.trans HK1.out) _ _ (by omega) (by omega) _ _ _ _ _ _ _ _ _ _ _ _)
    · obtain ⟨⟨s1, s2⟩, ⟨s3, s4⟩, hz⟩ := HSC.out z1 z2
      have HZ := Lib.hid hz
      have HD1 := Lib.hid (HD1.out z1 z2)
      have HD2 := Lib.hid (HD2.out z1 z2)
      clear z1 z2 hz hsca hscb
      have HLB0 := Lib.hid (HLB.out.on HK.out)
      obtain ⟨a0, a1', a2, a3, a4, a5⟩ := HLB0.out.a.c
      obtain ⟨b0, b1', b2, b3, b4, b5⟩ := HLB0.out.b.c
      by_cases hle : asc ≤ bsc
      · have hm : min asc bsc = asc := Int.min_eq_left hle
        have hd1 := HD1.out
        have hd2 := HD2.out
        rw [hm, Int.sub_self] at hd1
        rw [hm] at hd2
        have HD1 := Lib.hid hd1
        have HD2 := Lib.hid hd2
        clear hm hd1 hd2
        go_wp2_with fail
        refine (HD1.out _ (HK0.out.trans HK.out)).mono ?_
        rintro e w1 ⟨pv, nv, rfl, m1, m2, _⟩
        obtain ⟨p1, q1, rfl⟩ := m1.slice
        obtain ⟨n1, r1, rfl⟩ := m2.slice
        have HK1 := Lib.hid (HK.out.trans m1.kept)
        unfold histV
        dsimp only
        have HM1 := Lib.hid (And.intro m1 m2)
        have HLB1 := Lib.hid (HLB0.out.on m1.kept)
        obtain ⟨x0, x1, x2, x3, x4, x5⟩ := HLB1.out.x.c
        obtain ⟨f0, f1, f2, f3, f4, f5⟩ := HLB1.out.x.f
        clear m1 m2
        go_upto_region 10 with fail
        obtain ⟨ws, hws⟩ : ∃ ws, ws = set6 w1 (w.heap.size + 1 + 1) (.int .i64 X.sc) (.int .u64 (X.ze : Int)) (.int .i64 X.po) (.slice p1 (uvals X.pl).length q1) (.int .i64 X.no) (.slice n1 (uvals X.nl).length r1) := ⟨_, rfl⟩
        have hs6 := set6_kept w1 (w.heap.size + 1 + 1) (.int .i64 X.sc) (.int .u64 (X.ze : Int)) (.int .i64 X.po) (.slice p1 (uvals X.pl).length q1) (.int .i64 X.no) (.slice n1 (uvals X.nl).length r1)
        have HX1 := Lib.hid (HLB1.out.x.set X (.slice p1 (uvals X.pl).length q1) (.slice n1 (uvals X.nl).length r1))
        have HB1 := Lib.hid (HLB1.out.b.same hs6 (by omega))
        have HY1 := Lib.hid (HLB1.out.y.same hs6 (by omega))
        have HKW1 := Lib.hid ((HK0.out.trans HK1.out).step6 (w.heap.size + 1 + 1) (.int .i64 X.sc) (.int .u64 (X.ze : Int)) (.int .i64 X.po) (.slice p1 (uvals X.pl).length q1) (.int .i64 X.no) (.slice n1 (uvals X.nl).length r1) (by omega))
        have HM1 := Lib.hid (And.intro ((HM1.out.1.down (HK0.out.trans HK.out)).set6 HLB1.out.x (by omega) (.int .i64 X.sc) (.int .u64 (X.ze : Int)) (.int .i64 X.po) (.slice p1 (uvals X.pl).length q1) (.int .i64 X.no) (.slice n1 (uvals X.nl).length r1)) ((HM1.out.2.down (HK0.out.trans HK.out)).set6 HLB1.out.x (by omega) (.int .i64 X.sc) (.int .u64 (X.ze : Int)) (.int .i64 X.po) (.slice p1 (uvals X.pl).length q1) (.int .i64 X.no) (.slice n1 (uvals X.nl).length r1)))
        rw [← hws] at HX1 HB1 HY1 HKW1 HM1
        unfold set6 at hws
        rw [← hws]
        clear hws hs6 x0 x1 x2 x3 x4 x5 f0 f1 f2 f3 f4 f5 HLB1
        obtain ⟨b0, b1', b2, b3, b4, b5⟩ := HB1.out.c
        go_wp2_with fail
        refine (HD2.out _ HKW1.out).mono ?_
        rintro e w2 ⟨pv, nv, rfl, m3, m4, _⟩
        obtain ⟨p2, q2, rfl⟩ := m3.slice
        obtain ⟨n2, r2, rfl⟩ := m4.slice
        unfold histV
        dsimp only
        have HM2 := Lib.hid (And.intro m3 m4)
        have HKW2 := Lib.hid (HKW1.out.trans m3.kept)
        have HX2 := Lib.hid (HX1.out.same m3.kept (fun x => x))
        have hy2 := HY1.out.same m3.kept (fun x => x)
        obtain ⟨y0, y1, y2, y3, y4, y5⟩ := hy2.c
        obtain ⟨f0, f1, f2, f3, f4, f5⟩ := hy2.f
        have HY2 := Lib.hid hy2
        clear hy2 m3 m4
        go_upto_region 11 with fail
        obtain ⟨wt, hwt⟩ : ∃ wt, wt = set6 w2 (w.heap.size + 1 + 1 + 1) (.int .i64 Y.sc) (.int .u64 (Y.ze : Int)) (.int .i64 Y.po) (.slice p2 (uvals Y.pl).length q2) (.int .i64 Y.no) (.slice n2 (uvals Y.nl).length r2) := ⟨_, rfl⟩
        have hs6 := set6_kept w2 (w.heap.size + 1 + 1 + 1) (.int .i64 Y.sc) (.int .u64 (Y.ze : Int)) (.int .i64 Y.po) (.slice p2 (uvals Y.pl).length q2) (.int .i64 Y.no) (.slice n2 (uvals Y.nl).length r2)
        have HX3 := Lib.hid (HX2.out.same hs6 (by omega))
        have HY3 := Lib.hid (HY2.out.set Y (.slice p2 (uvals Y.pl).length q2) (.slice n2 (uvals Y.nl).length r2))
        have HKW3 := Lib.hid (HKW2.out.step6 (w.heap.size + 1 + 1 + 1) (.int .i64 Y.sc) (.int .u64 (Y.ze : Int)) (.int .i64 Y.po) (.slice p2 (uvals Y.pl).length q2) (.int .i64 Y.no) (.slice n2 (uvals Y.nl).length r2) (by omega))
        have HM3 := Lib.hid (And.intro ((HM1.out.1.on HM2.out.1.kept).set6 HY2.out (by omega) (.int .i64 Y.sc) (.int .u64 (Y.ze : Int)) (.int .i64 Y.po) (.slice p2 (uvals Y.pl).length q2) (.int .i64 Y.no) (.slice n2 (uvals Y.nl).length r2)) ((HM1.out.2.on HM2.out.1.kept).set6 HY2.out (by omega) (.int .i64 Y.sc) (.int .u64 (Y.ze : Int)) (.int .i64 Y.po) (.slice p2 (uvals Y.pl).length q2) (.int .i64 Y.no) (.slice n2 (uvals Y.nl).length r2)))
        have HM4 := Lib.hid (And.intro ((HM2.out.1.down HKW1.out).set6 HY2.out (by omega) (.int .i64 Y.sc) (.int .u64 (Y.ze : Int)) (.int .i64 Y.po) (.slice p2 (uvals Y.pl).length q2) (.int .i64 Y.no) (.slice n2 (uvals Y.nl).length r2)) ((HM2.out.2.down HKW1.out).set6 HY2.out (by omega) (.int .i64 Y.sc) (.int .u64 (Y.ze : Int)) (.int .i64 Y.po) (.slice p2 (uvals Y.pl).length q2) (.int .i64 Y.no) (.slice n2 (uvals Y.nl).length r2)))
        rw [← hwt] at HX3 HY3 HKW3 HM3 HM4
        unfold set6 at hwt
        rw [← hwt]
        clear hwt hs6 y0 y1 y2 y3 y4 y5 f0 f1 f2 f3 f4 f5 b0 b1' b2 b3 b4 b5 HX1 HB1 HY1 HX2 HY2 HM1 HM2 HKW1 HKW2
        obtain ⟨x0, x1, x2, x3, x4, x5⟩ := HX3.out.c
        obtain ⟨f0, f1, f2, f3, f4, f5⟩ := HX3.out.f
        obtain ⟨y0, y1, y2, y3, y4, y5⟩ := HY3.out.c
        obtain ⟨g0, g1, g2, g3, g4, g5⟩ := HY3.out.f
        have HDD := Lib.hid ((Kept.refl (fun _ => False) (set6 (set6 wt (w.heap.size + 1 + 1) (.int .i64 X.sc) (.int .u64 (X.ze : Int)) (.int .i64 X.po) (.slice p1 (uvals X.pl).length q1) (.int .i64 X.no) (.slice n1 (uvals X.nl).length r1)) (w.heap.size + 1 + 1 + 1) (.int .i64 Y.sc) (.int .u64 (Y.ze : Int)) (.int .i64 Y.po) (.slice p2 (uvals Y.pl).length q2) (.int .i64 Y.no) (.slice n2 (uvals Y.nl).length r2))).drew)
        have HBX := Lib.hid ((HX3.out.set X (.slice p1 (uvals X.pl).length q1) (.slice n1 (uvals X.nl).length r1)).same (set6_kept _ (w.heap.size + 1 + 1 + 1) (.int .i64 Y.sc) (.int .u64 (Y.ze : Int)) (.int .i64 Y.po) (.slice p2 (uvals Y.pl).length q2) (.int .i64 Y.no) (.slice n2 (uvals Y.nl).length r2)) (by omega))
        have hyx := HY3.out.same (set6_kept wt (w.heap.size + 1 + 1) (.int .i64 X.sc) (.int .u64 (X.ze : Int)) (.int .i64 X.po) (.slice p1 (uvals X.pl).length q1) (.int .i64 X.no) (.slice n1 (uvals X.nl).length r1)) (by omega)
        have HBY := Lib.hid (hyx.set Y (.slice p2 (uvals Y.pl).length q2) (.slice n2 (uvals Y.nl).length r2))
        have HEND : Hid (LevOut w X Y EL (.returned (.tuple #[histV X (.slice p1 (uvals X.pl).length q1) (.slice n1 (uvals X.nl).length r1), histV Y (.slice p2 (uvals Y.pl).length q2) (.slice n2 (uvals Y.nl).length r2), .int .i64 0])) (set6 (set6 wt (w.heap.size + 1 + 1) (.int .i64 X.sc) (.int .u64 (X.ze : Int)) (.int .i64 X.po) (.slice p1 (uvals X.pl).length q1) (.int .i64 X.no) (.slice n1 (uvals X.nl).length r1)) (w.heap.size + 1 + 1 + 1) (.int .i64 Y.sc) (.int .u64 (Y.ze : Int)) (.int .i64 Y.po) (.slice p2 (uvals Y.pl).length q2) (.int .i64 Y.no) (.slice n2 (uvals Y.nl).length r2)).drew) := Lib.hid (by
          have e := HZ.out
          rw [e]
          exact ⟨_, _, _, _, rfl, ((HM3.out.1.set6 HX3.out (by omega) (.int .i64 X.sc) (.int .u64 (X.ze : Int)) (.int .i64 X.po) (.slice p1 (uvals X.pl).length q1) (.int .i64 X.no) (.slice n1 (uvals X.nl).length r1)).set6 hyx (by omega) (.int .i64 Y.sc) (.int .u64 (Y.ze : Int)) (.int .i64 Y.po) (.slice p2 (uvals Y.pl).length q2) (.int .i64 Y.no) (.slice n2 (uvals Y.nl).length r2)).on HDD.out, ((HM3.out.2.set6 HX3.out (by omega) (.int .i64 X.sc) (.int .u64 (X.ze : Int)) (.int .i64 X.po) (.slice p1 (uvals X.pl).length q1) (.int .i64 X.no) (.slice n1 (uvals X.nl).length r1)).set6 hyx (by omega) (.int .i64 Y.sc) (.int .u64 (Y.ze : Int)) (.int .i64 Y.po) (.slice p2 (uvals Y.pl).length q2) (.int .i64 Y.no) (.slice n2 (uvals Y.nl).length r2)).on HDD.out, ((HM4.out.1.set6 HX3.out (by omega) (.int .i64 X.sc) (.int .u64 (X.ze : Int)) (.int .i64 X.po) (.slice p1 (uvals X.pl).length q1) (.int .i64 X.no) (.slice n1 (uvals X.nl).length r1)).set6 hyx (by omega) (.int .i64 Y.sc) (.int .u64 (Y.ze : Int)) (.int .i64 Y.po) (.slice p2 (uvals Y.pl).length q2) (.int .i64 Y.no) (.slice n2 (uvals Y.nl).length r2)).on HDD.out, ((HM4.out.2.set6 HX3.out (by omega) (.int .i64 X.sc) (.int .u64 (X.ze : Int)) (.int .i64 X.po) (.slice p1 (uvals X.pl).length q1) (.int .i64 X.no) (.slice n1 (uvals X.nl).length r1)).set6 hyx (by omega) (.int .i64 Y.sc) (.int .u64 (Y.ze : Int)) (.int .i64 Y.po) (.slice p2 (uvals Y.pl).length q2) (.int .i64 Y.no) (.slice n2 (uvals Y.nl).length r2)).on HDD.out⟩)
        clear hyx HM3 HM4
        go_region
        go_wp2
        exact lev_end (h := X) (h2 := Y) Try.results28 rfl rfl rfl rfl (HBX.out.same HDD.out (fun x => x)) (HBY.out.same HDD.out (fun x => x)) HEND.out
      · have hm : min asc bsc = bsc := Int.min_eq_right (by omega)
        have hd1 := HD1.out
        have hd2 := HD2.out
        rw [hm] at hd1
        rw [hm, Int.sub_self] at hd2
        have HD1 := Lib.hid hd1
        have HD2 := Lib.hid hd2
        clear hm hd1 hd2
        go_wp2_with fail
        refine (HD1.out _ (HK0.out.trans HK.out)).mono ?_
        rintro e w1 ⟨pv, nv, rfl, m1, m2, _⟩
        obtain ⟨p1, q1, rfl⟩ := m1.slice
        obtain ⟨n1, r1, rfl⟩ := m2.slice
        have HK1 := Lib.hid (HK.out.trans m1.kept)
        unfold histV
        dsimp only
        have HM1 := Lib.hid (And.intro m1 m2)
        have HLB1 := Lib.hid (HLB0.out.on m1.kept)
        obtain ⟨x0, x1, x2, x3, x4, x5⟩ := HLB1.out.x.c
        obtain ⟨f0, f1, f2, f3, f4, f5⟩ := HLB1.out.x.f
        clear m1 m2
        go_upto_region 10 with fail
        obtain ⟨ws, hws⟩ : ∃ ws, ws = set6 w1 (w.heap.size + 1 + 1) (.int .i64 X.sc) (.int .u64 (X.ze : Int)) (.int .i64 X.po) (.slice p1 (uvals X.pl).length q1) (.int .i64 X.no) (.slice n1 (uvals X.nl).length r1) := ⟨_, rfl⟩
        have hs6 := set6_kept w1 (w.heap.size + 1 + 1) (.int .i64 X.sc) (.int .u64 (X.ze : Int)) (.int .i64 X.po) (.slice p1 (uvals X.pl).length q1) (.int .i64 X.no) (.slice n1 (uvals X.nl).length r1)
        have HX1 := Lib.hid (HLB1.out.x.set X (.slice p1 (uvals X.pl).length q1) (.slice n1 (uvals X.nl).length r1))
        have HB1 := Lib.hid (HLB1.out.b.same hs6 (by omega))
        have HY1 := Lib.hid (HLB1.out.y.same hs6 (by omega))
        have HKW1 := Lib.hid ((HK0.out.trans HK1.out).step6 (w.heap.size + 1 + 1) (.int .i64 X.sc) (.int .u64 (X.ze : Int)) (.int .i64 X.po) (.slice p1 (uvals X.pl).length q1) (.int .i64 X.no) (.slice n1 (uvals X.nl).length r1) (by omega))
        have HM1 := Lib.hid (And.intro ((HM1.out.1.down (HK0.out.trans HK.out)).set6 HLB1.out.x (by omega) (.int .i64 X.sc) (.int .u64 (X.ze : Int)) (.int .i64 X.po) (.slice p1 (uvals X.pl).length q1) (.int .i64 X.no) (.slice n1 (uvals X.nl).length r1)) ((HM1.out.2.down (HK0.out.trans HK.out)).set6 HLB1.out.x (by omega) (.int .i64 X.sc) (.int .u64 (X.ze : Int)) (.int .i64 X.po) (.slice p1 (uvals X.pl).length q1) (.int .i64 X.no) (.slice n1 (uvals X.nl).length r1)))
        rw [← hws] at HX1 HB1 HY1 HKW1 HM1
        unfold set6 at hws
        rw [← hws]
        clear hws hs6 x0 x1 x2 x3 x4 x5 f0 f1 f2 f3 f4 f5 HLB1
        obtain ⟨b0, b1', b2, b3, b4, b5⟩ := HB1.out.c
        go_wp2_with fail
        refine (HD2.out _ HKW1.out).mono ?_
        rintro e w2 ⟨pv, nv, rfl, m3, m4, _⟩
        obtain ⟨p2, q2, rfl⟩ := m3.slice
        obtain ⟨n2, r2, rfl⟩ := m4.slice
        unfold histV
        dsimp only
        have HM2 := Lib.hid (And.intro m3 m4)
        have HKW2 := Lib.hid (HKW1.out.trans m3.kept)
        have HX2 := Lib.hid (HX1.out.same m3.kept (fun x => x))
        have hy2 := HY1.out.same m3.kept (fun x => x)
        obtain ⟨y0, y1, y2, y3, y4, y5⟩ := hy2.c
        obtain ⟨f0, f1, f2, f3, f4, f5⟩ := hy2.f
        have HY2 := Lib.hid hy2
        clear hy2 m3 m4
        go_upto_region 11 with fail
        obtain ⟨wt, hwt⟩ : ∃ wt, wt = set6 w2 (w.heap.size + 1 + 1 + 1) (.int .i64 Y.sc) (.int .u64 (Y.ze : Int)) (.int .i64 Y.po) (.slice p2 (uvals Y.pl).length q2) (.int .i64 Y.no) (.slice n2 (uvals Y.nl).length r2) := ⟨_, rfl⟩
        have hs6 := set6_kept w2 (w.heap.size + 1 + 1 + 1) (.int .i64 Y.sc) (.int .u64 (Y.ze : Int)) (.int .i64 Y.po) (.slice p2 (uvals Y.pl).length q2) (.int .i64 Y.no) (.slice n2 (uvals Y.nl).length r2)
        have HX3 := Lib.hid (HX2.out.same hs6 (by omega))
        have HY3 := Lib.hid (HY2.out.set Y (.slice p2 (uvals Y.pl).length q2) (.slice n2 (uvals Y.nl).length r2))
        have HKW3 := Lib.hid (HKW2.out.step6 (w.heap.size + 1 + 1 + 1) (.int .i64 Y.sc) (.int .u64 (Y.ze : Int)) (.int .i64 Y.po) (.slice p2 (uvals Y.pl).length q2) (.int .i64 Y.no) (.slice n2 (uvals Y.nl).length r2) (by omega))
        have HM3 := Lib.hid (And.intro ((HM1.out.1.on HM2.out.1.kept).set6 HY2.out (by omega) (.int .i64 Y.sc) (.int .u64 (Y.ze : Int)) (.int .i64 Y.po) (.slice p2 (uvals Y.pl).length q2) (.int .i64 Y.no) (.slice n2 (uvals Y.nl).length r2)) ((HM1.out.2.on HM2.out.1.kept).set6 HY2.out (by omega) (.int .i64 Y.sc) (.int .u64 (Y.ze : Int)) (.int .i64 Y.po) (.slice p2 (uvals Y.pl).length q2) (.int .i64 Y.no) (.slice n2 (uvals Y.nl).length r2)))
        have HM4 := Lib.hid (And.intro ((HM2.out.1.down HKW1.out).set6 HY2.out (by omega) (.int .i64 Y.sc) (.int .u64 (Y.ze : Int)) (.int .i64 Y.po) (.slice p2 (uvals Y.pl).length q2) (.int .i64 Y.no) (.slice n2 (uvals Y.nl).length r2)) ((HM2.out.2.down HKW1.out).set6 HY2.out (by omega) (.int .i64 Y.sc) (.int .u64 (Y.ze : Int)) (.int .i64 Y.po) (.slice p2 (uvals Y.pl).length q2) (.int .i64 Y.no) (.slice n2 (uvals Y.nl).length r2)))
        rw [← hwt] at HX3 HY3 HKW3 HM3 HM4
        unfold set6 at hwt
        rw [← hwt]
        clear hwt hs6 y0 y1 y2 y3 y4 y5 f0 f1 f2 f3 f4 f5 b0 b1' b2 b3 b4 b5 HX1 HB1 HY1 HX2 HY2 HM1 HM2 HKW1 HKW2
        obtain ⟨x0, x1, x2, x3, x4, x5⟩ := HX3.out.c
        obtain ⟨f0, f1, f2, f3, f4, f5⟩ := HX3.out.f
        obtain ⟨y0, y1, y2, y3, y4, y5⟩ := HY3.out.c
        obtain ⟨g0, g1, g2, g3, g4, g5⟩ := HY3.out.f
        have HDD := Lib.hid ((Kept.refl (fun _ => False) (set6 (set6 wt (w.heap.size + 1 + 1) (.int .i64 X.sc) (.int .u64 (X.ze : Int)) (.int .i64 X.po) (.slice p1 (uvals X.pl).length q1) (.int .i64 X.no) (.slice n1 (uvals X.nl).length r1)) (w.heap.size + 1 + 1 + 1) (.int .i64 Y.sc) (.int .u64 (Y.ze : Int)) (.int .i64 Y.po) (.slice p2 (uvals Y.pl).length q2) (.int .i64 Y.no) (.slice n2 (uvals Y.nl).length r2))).drew)
        have HBX := Lib.hid ((HX3.out.set X (.slice p1 (uvals X.pl).length q1) (.slice n1 (uvals X.nl).length r1)).same (set6_kept _ (w.heap.size + 1 + 1 + 1) (.int .i64 Y.sc) (.int .u64 (Y.ze : Int)) (.int .i64 Y.po) (.slice p2 (uvals Y.pl).length q2) (.int .i64 Y.no) (.slice n2 (uvals Y.nl).length r2)) (by omega))
        have hyx := HY3.out.same (set6_kept wt (w.heap.size + 1 + 1) (.int .i64 X.sc) (.int .u64 (X.ze : Int)) (.int .i64 X.po) (.slice p1 (uvals X.pl).length q1) (.int .i64 X.no) (.slice n1 (uvals X.nl).length r1)) (by omega)
        have HBY := Lib.hid (hyx.set Y (.slice p2 (uvals Y.pl).length q2) (.slice n2 (uvals Y.nl).length r2))
        have HEND : Hid (LevOut w X Y EL (.returned (.tuple #[histV X (.slice p1 (uvals X.pl).length q1) (.slice n1 (uvals X.nl).length r1), histV Y (.slice p2 (uvals Y.pl).length q2) (.slice n2 (uvals Y.nl).length r2), .int .i64 0])) (set6 (set6 wt (w.heap.size + 1 + 1) (.int .i64 X.sc) (.int .u64 (X.ze : Int)) (.int .i64 X.po) (.slice p1 (uvals X.pl).length q1) (.int .i64 X.no) (.slice n1 (uvals X.nl).length r1)) (w.heap.size + 1 + 1 + 1) (.int .i64 Y.sc) (.int .u64 (Y.ze : Int)) (.int .i64 Y.po) (.slice p2 (uvals Y.pl).length q2) (.int .i64 Y.no) (.slice n2 (uvals Y.nl).length r2)).drew) := Lib.hid (by
          have e := HZ.out
          rw [e]
          exact ⟨_, _, _, _, rfl, ((HM3.out.1.set6 HX3.out (by omega) (.int .i64 X.sc) (.int .u64 (X.ze : Int)) (.int .i64 X.po) (.slice p1 (uvals X.pl).length q1) (.int .i64 X.no) (.slice n1 (uvals X.nl).length r1)).set6 hyx (by omega) (.int .i64 Y.sc) (.int .u64 (Y.ze : Int)) (.int .i64 Y.po) (.slice p2 (uvals Y.pl).length q2) (.int .i64 Y.no) (.slice n2 (uvals Y.nl).length r2)).on HDD.out, ((HM3.out.2.set6 HX3.out (by omega) (.int .i64 X.sc) (.int .u64 (X.ze : Int)) (.int .i64 X.po) (.slice p1 (uvals X.pl).length q1) (.int .i64 X.no) (.slice n1 (uvals X.nl).length r1)).set6 hyx (by omega) (.int .i64 Y.sc) (.int .u64 (Y.ze : Int)) (.int .i64 Y.po) (.slice p2 (uvals Y.pl).length q2) (.int .i64 Y.no) (.slice n2 (uvals Y.nl).length r2)).on HDD.out, ((HM4.out.1.set6 HX3.out (by omega) (.int .i64 X.sc) (.int .u64 (X.ze : Int)) (.int .i64 X.po) (.slice p1 (uvals X.pl).length q1) (.int .i64 X.no) (.slice n1 (uvals X.nl).length r1)).set6 hyx (by omega) (.int .i64 Y.sc) (.int .u64 (Y.ze : Int)) (.int .i64 Y.po) (.slice p2 (uvals Y.pl).length q2) (.int .i64 Y.no) (.slice n2 (uvals Y.nl).length r2)).on HDD.out, ((HM4.out.2.set6 HX3.out (by omega) (.int .i64 X.sc) (.int .u64 (X.ze : Int)) (.int .i64 X.po) (.slice p1 (uvals X.pl).length q1) (.int .i64 X.no) (.slice n1 (uvals X.nl).length r1)).set6 hyx (by omega) (.int .i64 Y.sc) (.int .u64 (Y.ze : Int)) (.int .i64 Y.po) (.slice p2 (uvals Y.pl).length q2) (.int .i64 Y.no) (.slice n2 (uvals Y.nl).length r2)).on HDD.out⟩)
        clear hyx HM3 HM4
        go_region
        go_wp2
        exact lev_end (h := X) (h2 := Y) Try.results28 rfl rfl rfl rfl (HBX.out.same HDD.out (fun x => x)) (HBY.out.same HDD.out (fun x => x)) HEND.out
end Go.Proofs.Ytbjpcddnjndjlaa
