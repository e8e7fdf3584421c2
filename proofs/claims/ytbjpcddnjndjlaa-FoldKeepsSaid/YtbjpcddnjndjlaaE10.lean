/- package fold: what Merge and Sub answer, plainly; boxes. -/
import Derived.Test.YtbjpcddnjndjlaaE3
import Derived.Test.YtbjpcddnjndjlaaE9
namespace Go.Proofs.Ytbjpcddnjndjlaa
open Go.RowKit

def mgE (a b : HistV) : Nat := if levE a b ≠ 0 then levE a b else if 18446744073709551616 ≤ (levX a b).total + (levY a b).total then 4 else if spN (levX a b).po (levX a b).pl (levY a b).po (levY a b).pl ≤ 160 ∧ spN (levX a b).no (levX a b).nl (levY a b).no (levY a b).nl ≤ 160 then 0 else 1
def mgH2 (X Y : HistV) : HistV := ⟨X.sc, X.ze + Y.ze, mgO X.po X.pl Y.po Y.pl, mgR X.po X.pl Y.po Y.pl, mgO X.no X.nl Y.no Y.nl, mgR X.no X.nl Y.no Y.nl⟩
def mgH (a b : HistV) : HistV := if mgE a b = 0 then mgH2 (levX a b) (levY a b) else zeroH
/-- What a call answers that makes a histogram, in new memory. -/
def HistNew (w : World) (R : HistV) (E : Nat) (e : Ending) (w' : World) : Prop :=
  ∃ pv nv, e = .returned (.tuple #[histV R pv nv, .int .i64 (E : Int)]) ∧ Mine w w' 22 pv (uvals R.pl) ∧ Mine w w' 22 nv (uvals R.nl)
theorem HistNew.zero {w w' : World} {E : Nat} (hk : Kept (fun _ => False) w w') : HistNew w zeroH E (.returned (.tuple #[histV zeroH (.slice none 0 0) (.slice none 0 0), .int .i64 (E : Int)])) w' :=
  ⟨_, _, rfl, Mine.nil' _ hk, Mine.nil' _ hk⟩
theorem lev_right {a b : HistV} (h : levE a b = 0) (oka : a.ok) (okb : b.ok) : a.err = 0 ∧ b.err = 0 ∧ (levX a b).err = 0 ∧ (levY a b).err = 0 ∧ (levX a b).ok ∧ (levY a b).ok ∧ (levX a b).total = a.total ∧ (levY a b).total = b.total := by
  have h1 : a.err = 0 := by
    by_cases e : a.err = 0
    · exact e
    · unfold levE at h; rw [if_pos e] at h; exact h
  have h2 : b.err = 0 := by unfold levE at h; rw [if_neg (by omega)] at h; exact h
  obtain ⟨g1, g2, g3, g4, g5⟩ := lev_good h1 h2
  refine ⟨h1, h2, ?_, ?_, ?_, ?_, ?_, ?_⟩
  · rw [g4, downR_ok g2]; have := downE_zero g2; exact downH_err a _ h1 (by omega)
  · rw [g5, downR_ok g3]; have := downE_zero g3; exact downH_err b _ h2 (by omega)
  · rw [g4]; exact downR_ok' a _ oka
  · rw [g5]; exact downR_ok' b _ okb
  · rw [g4, downR_ok g2]; exact downH_total a _
  · rw [g5, downR_ok g3]; exact downH_total b _
theorem trim_exists (o : Int) (l : List Nat) : ∃ o' l', TrimOf o l o' l' := by
  by_cases h : ∃ j, j < l.length ∧ l.getD j 0 ≠ 0
  · obtain ⟨j, hj, hn⟩ := h
    obtain ⟨a, ha, hna, hmin⟩ := least_nat (fun j => l.getD j 0 ≠ 0) j hn
    obtain ⟨k, hk, hnk, hmax⟩ := least_nat (fun k => l.getD (l.length - 1 - k) 0 ≠ 0) (l.length - 1 - j) (by rw [show l.length - 1 - (l.length - 1 - j) = j by omega]; exact hn)
    refine ⟨_, _, .inr ⟨a, l.length - k, ?_, by omega, fun i hi => Decidable.of_not_not (hmin i hi), fun i h1 h2 => ?_, hna, ?_, rfl, rfl⟩⟩
    · by_cases e : a < l.length - k
      · exact e
      · have hz := hmin (l.length - 1 - k) (by omega)
        exact absurd hnk hz
    · have := hmax (l.length - 1 - i) (by omega)
      rw [show l.length - 1 - (l.length - 1 - i) = i by omega] at this
      exact Decidable.of_not_not this
    · rw [show l.length - k - 1 = l.length - 1 - k by omega]; exact hnk
  · exact ⟨_, _, .inl ⟨fun j hj => Decidable.of_not_not fun hn => h ⟨j, hj, hn⟩, rfl, rfl⟩⟩
theorem sub_exists (o1 : Int) (l1 : List Nat) (o2 : Int) (l2 : List Nat) : ∃ ok o l, SubRes o1 l1 o2 l2 ok o l := by
  by_cases h : hasS o1 l1 o2 l2
  · obtain ⟨o, l, t⟩ := trim_exists o1 (lsL o1 l1 o2 l2)
    exact ⟨_, _, _, .inl ⟨rfl, h, t⟩⟩
  · exact ⟨_, _, _, .inr ⟨rfl, h, rfl, rfl⟩⟩
/-- What Sub answers. -/
def SubH (a b R : HistV) (E : Nat) : Prop :=
  (levE a b ≠ 0 ∧ E = levE a b ∧ R = zeroH) ∨
  (levE a b = 0 ∧ ∃ k1 o1 l1 k2 o2 l2, SubRes (levX a b).po (levX a b).pl (levY a b).po (levY a b).pl k1 o1 l1 ∧ SubRes (levX a b).no (levX a b).nl (levY a b).no (levY a b).nl k2 o2 l2 ∧
    ((k1 = true ∧ k2 = true ∧ (levY a b).ze ≤ (levX a b).ze ∧ E = 0 ∧ R = ⟨(levX a b).sc, (levX a b).ze - (levY a b).ze, o1, l1, o2, l2⟩) ∨ ((k1 = false ∨ k2 = false ∨ (levX a b).ze < (levY a b).ze) ∧ E = 7 ∧ R = zeroH)))
theorem SubH.uniq {a b R R' : HistV} {E E' : Nat} (h : SubH a b R E) (h' : SubH a b R' E') : R = R' ∧ E = E' := by
  rcases h with ⟨c, rfl, rfl⟩ | ⟨c, k1, o1, l1, k2, o2, l2, s1, s2, h⟩ <;> rcases h' with ⟨c', rfl, rfl⟩ | ⟨c', j1, p1, m1, j2, p2, m2, t1, t2, h'⟩
  · exact ⟨rfl, rfl⟩
  · exact absurd c' c
  · exact absurd c c'
  · obtain ⟨rfl, rfl, rfl⟩ := s1.uniq t1
    obtain ⟨rfl, rfl, rfl⟩ := s2.uniq t2
    rcases h with ⟨x1, x2, x3, rfl, rfl⟩ | ⟨x, rfl, rfl⟩ <;> rcases h' with ⟨y1, y2, y3, rfl, rfl⟩ | ⟨y, rfl, rfl⟩
    · exact ⟨rfl, rfl⟩
    · rcases y with y | y | y
      · rw [x1] at y; cases y
      · rw [x2] at y; cases y
      · omega
    · rcases x with x | x | x
      · rw [y1] at x; cases x
      · rw [y2] at x; cases x
      · omega
    · exact ⟨rfl, rfl⟩
theorem HistIn.on {w w' : World} {h : HistV} {pv nv : Value} (a : HistIn w h pv nv) (k : Kept (fun _ => False) w w') : HistIn w' h pv nv := ⟨a.at_.on k, a.ok, a.cp, a.cn⟩
/-- Three boxes: two histograms that came in, and one to answer. -/
structure HB3 (w wr : World) (a b r : HistV) (ap an bp bn rp rn : Value) : Prop where
  a : HistBox wr w.heap.size a ap an
  b : HistBox wr (w.heap.size + 1) b bp bn
  r : HistBox wr (w.heap.size + 1 + 1) r rp rn
theorem HB3.on {w wr w' : World} {a b r : HistV} {ap an bp bn rp rn : Value} (h : HB3 w wr a b r ap an bp bn rp rn) (k : Kept (fun _ => False) wr w') : HB3 w w' a b r ap an bp bn rp rn := ⟨h.a.same k (fun x => x), h.b.same k (fun x => x), h.r.same k (fun x => x)⟩
theorem HB3.mk0 (w : World) (a b : HistV) (ap an bp bn : Value) : HB3 w (((w.alloc (.cells #[.int .i64 a.sc, .int .u64 (a.ze : Int), .int .i64 a.po, ap, .int .i64 a.no, an] 27)).alloc (.cells #[.int .i64 b.sc, .int .u64 (b.ze : Int), .int .i64 b.po, bp, .int .i64 b.no, bn] 27)).alloc (.cells #[.int .i64 0, .int .u64 0, .int .i64 0, .slice none 0 0, .int .i64 0, .slice none 0 0] 27)) a b zeroH ap an bp bn (.slice none 0 0) (.slice none 0 0) := by
  have k := fun (w : World) o => (Kept.refl (fun _ => False) w).alloc o
  refine ⟨?_, ?_, ?_⟩
  · exact ((hist_boxed w a ap an).same (k _ _) (fun x => x)).same (k _ _) (fun x => x)
  · have := hist_boxed (w.alloc (.cells #[.int .i64 a.sc, .int .u64 (a.ze : Int), .int .i64 a.po, ap, .int .i64 a.no, an] 27)) b bp bn
    rw [show (w.alloc (.cells #[.int .i64 a.sc, .int .u64 (a.ze : Int), .int .i64 a.po, ap, .int .i64 a.no, an] 27)).heap.size = w.heap.size + 1 by simp] at this
    exact this.same (k _ _) (fun x => x)
  · have := hist_alloc ((w.alloc (.cells #[.int .i64 a.sc, .int .u64 (a.ze : Int), .int .i64 a.po, ap, .int .i64 a.no, an] 27)).alloc (.cells #[.int .i64 b.sc, .int .u64 (b.ze : Int), .int .i64 b.po, bp, .int .i64 b.no, bn] 27))
    rw [show ((w.alloc (.cells #[.int .i64 a.sc, .int .u64 (a.ze : Int), .int .i64 a.po, ap, .int .i64 a.no, an] 27)).alloc (.cells #[.int .i64 b.sc, .int .u64 (b.ze : Int), .int .i64 b.po, bp, .int .i64 b.no, bn] 27)).heap.size = w.heap.size + 1 + 1 by simp] at this
    exact this
/-- A pair of histograms in new memory. -/
structure Two2 (w wr : World) (X Y : HistV) (p1 n1 p2 n2 : Value) : Prop where
  p1 : Mine w wr 22 p1 (uvals X.pl)
  n1 : Mine w wr 22 n1 (uvals X.nl)
  p2 : Mine w wr 22 p2 (uvals Y.pl)
  n2 : Mine w wr 22 n2 (uvals Y.nl)
theorem Two2.on {w wr w' : World} {X Y : HistV} {p1 n1 p2 n2 : Value} (h : Two2 w wr X Y p1 n1 p2 n2) (k : Kept (fun _ => False) wr w') : Two2 w w' X Y p1 n1 p2 n2 := ⟨h.p1.on k, h.n1.on k, h.p2.on k, h.n2.on k⟩
theorem Two2.down {W w wr : World} {X Y : HistV} {p1 n1 p2 n2 : Value} (h : Two2 w wr X Y p1 n1 p2 n2) (k : Kept (fun _ => False) W w) : Two2 W wr X Y p1 n1 p2 n2 := ⟨h.p1.down k, h.n1.down k, h.p2.down k, h.n2.down k⟩
theorem Two2.atX {w wr : World} {X Y : HistV} {p1 n1 p2 n2 : Value} (h : Two2 w wr X Y p1 n1 p2 n2) : HistAt wr X p1 n1 := ⟨h.p1.at_, h.n1.at_⟩
theorem Two2.atY {w wr : World} {X Y : HistV} {p1 n1 p2 n2 : Value} (h : Two2 w wr X Y p1 n1 p2 n2) : HistAt wr Y p2 n2 := ⟨h.p2.at_, h.n2.at_⟩
theorem pair_boxed (w : World) (X Y : HistV) (p1 n1 p2 n2 : Value) (E : Nat) : PairBox (w.alloc (.cells #[.int .i64 X.sc, .int .u64 (X.ze : Int), .int .i64 X.po, p1, .int .i64 X.no, n1, .int .i64 Y.sc, .int .u64 (Y.ze : Int), .int .i64 Y.po, p2, .int .i64 Y.no, n2, .int .i64 (E : Int)] 47)) w.heap.size X Y p1 n1 p2 n2 E := heap_alloc_new w _
theorem side_boxed (w : World) (o : Int) (v : Value) : SideBox (w.alloc (.cells #[.int .i64 o, v] 25)) w.heap.size o v := heap_alloc_new w _
theorem SideTry.down {W w : World} {ok : Bool} {o : Int} {l : List Nat} {e : Ending} {w' : World} (h : SideTry w w ok o l e w') (hk : Kept (fun _ => False) W w) : SideTry W w ok o l e w' := by
  obtain ⟨v, rfl, hm, k⟩ := h
  exact ⟨v, rfl, hm.down hk, k⟩
/-- SubOut's answer, known ahead. -/
theorem SubOut.try_ {W w : World} {o1 o2 o : Int} {l1 l2 l : List Nat} {ok : Bool} {e : Ending} {w' : World} (hs : SubRes o1 l1 o2 l2 ok o l) (hk : Kept (fun _ => False) W w) (h : SubOut w (SubRes o1 l1 o2 l2) e w') : SideTry W w ok o l e w' := by
  obtain ⟨k, o', l', v, hr, rfl, hm⟩ := h
  obtain ⟨rfl, rfl, rfl⟩ := hs.uniq hr
  exact ⟨v, rfl, hm.down hk, hm.kept⟩
end Go.Proofs.Ytbjpcddnjndjlaa
