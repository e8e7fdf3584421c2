/- Texts put together: Z2, B0, B1, B2, V4, B3. -/
import Derived.Test.YtjpnfadmblmjbaaDoorZz2
import Derived.Test.YtjpnfadmblmjbaaDoorRows
import Derived.Test.YtjpnfadmblmjbaaDoorZz1
import Derived.Lib.Hide
import Derived.Deep.RegionHeld3
import Derived.Deep.DrawnRows
import Derived.Outline
import Derived.Deep.QuietTactic
import Derived.BigQuiet
import Derived.Deep.DeepCutAuto
import Derived.Deep.LoopGhost
import Derived.Deep.RegionLaw
/- package histbits: a row in memory; NewRow, Len, goOn. -/
namespace Go.Proofs.YtjpnfadmblmjbaaDoor
open Go.RowKit
attribute [local go_sem ↓] Go.wp_at_zero Go.wp_at_succ

/-- A row of histograms in its block: how many, and the last one. -/
def HRow (w : World) (r n : Nat) (h : HistV) (pv nv : Value) : Prop := w.heap[r]? = some (.cells #[.int .i64 (n : Int), .int .i64 h.sc, .int .u64 (h.ze : Int), .int .i64 h.po, pv, .int .i64 h.no, nv] 97 (0, 0))
theorem HRow.c {w : World} {r n : Nat} {h : HistV} {pv nv : Value} (b : HRow w r n h pv nv) : w.cell? ⟨r, 0, none⟩ = some (.int .i64 (n : Int)) ∧ w.cell? ⟨r, 1, none⟩ = some (.int .i64 h.sc) ∧ w.cell? ⟨r, 2, none⟩ = some (.int .u64 (h.ze : Int)) ∧ w.cell? ⟨r, 3, none⟩ = some (.int .i64 h.po) ∧ w.cell? ⟨r, 4, none⟩ = some pv ∧ w.cell? ⟨r, 5, none⟩ = some (.int .i64 h.no) ∧ w.cell? ⟨r, 6, none⟩ = some nv := by
  refine ⟨?_, ?_, ?_, ?_, ?_, ?_, ?_⟩
  · rw [cell_of_row _ _ 0 _ _ _ b]; rfl
  · rw [cell_of_row _ _ 1 _ _ _ b]; rfl
  · rw [cell_of_row _ _ 2 _ _ _ b]; rfl
  · rw [cell_of_row _ _ 3 _ _ _ b]; rfl
  · rw [cell_of_row _ _ 4 _ _ _ b]; rfl
  · rw [cell_of_row _ _ 5 _ _ _ b]; rfl
  · rw [cell_of_row _ _ 6 _ _ _ b]; rfl
theorem HRow.f {w : World} {r n : Nat} {h : HistV} {pv nv : Value} (b : HRow w r n h pv nv) (j : Nat) : w.frozen? ⟨r, j, none⟩ = false := by
  unfold HRow at b; simp [World.frozen?, b]
theorem HRow.same {S : Nat → Prop} {w w' : World} {r n : Nat} {h : HistV} {pv nv : Value} (b : HRow w r n h pv nv) (hk : Kept S w w') (hn : ¬ S r) : HRow w' r n h pv nv := hk.same b hn
theorem HRow.lt {w : World} {r n : Nat} {h : HistV} {pv nv : Value} (b : HRow w r n h pv nv) : r < w.heap.size := (Array.getElem?_eq_some_iff.1 b).1
/-- The last one is set, then how many. -/
def setHR (w : World) (r : Nat) (a b c d e f : Value) : World := (((((w.setCell ⟨r, 1, none⟩ a).setCell ⟨r, 2, none⟩ b).setCell ⟨r, 3, none⟩ c).setCell ⟨r, 4, none⟩ d).setCell ⟨r, 5, none⟩ e).setCell ⟨r, 6, none⟩ f
theorem HRow.set {w : World} {r n : Nat} {h : HistV} {pv nv : Value} (b : HRow w r n h pv nv) (h' : HistV) (pv' nv' : Value) : HRow (setHR w r (.int .i64 h'.sc) (.int .u64 (h'.ze : Int)) (.int .i64 h'.po) pv' (.int .i64 h'.no) nv') r n h' pv' nv' := by
  unfold HRow setHR at *; simp [World.setCell, Array.getElem?_modify, b]
theorem setHR_kept (w : World) (r : Nat) (a b c d e f : Value) : Kept (fun k => k = r) w (setHR w r a b c d e f) :=
  ((((((Kept.refl (fun k => k = r) w).setCell (p := ⟨r, 1, none⟩) (fun _ => rfl) a).setCell (p := ⟨r, 2, none⟩) (fun _ => rfl) b).setCell (p := ⟨r, 3, none⟩) (fun _ => rfl) c).setCell (p := ⟨r, 4, none⟩) (fun _ => rfl) d).setCell (p := ⟨r, 5, none⟩) (fun _ => rfl) e).setCell (p := ⟨r, 6, none⟩) (fun _ => rfl) f
theorem HRow.setN {w : World} {r n : Nat} {h : HistV} {pv nv : Value} (b : HRow w r n h pv nv) (m : Nat) : HRow (w.setCell ⟨r, 0, none⟩ (.int .i64 (m : Int))) r m h pv nv := by
  unfold HRow at *; simp [World.setCell, Array.getElem?_modify, b]
theorem mine_hrow {W w : World} {v : Value} {xs : List Value} {r n : Nat} {h : HistV} {pv nv : Value} (m : Mine W w 28 v xs) (b : HRow w r n h pv nv) : v.ownBlock ≠ some r := own_box m.own b (by decide)

set_option maxHeartbeats 400000 in
theorem hnewRow_any (w : World) :
    Calls Tryd.prog 37 #[] w fun e w' => e = .returned (.pointer (some ⟨w.heap.size, 0, none⟩)) ∧ HRow w' w.heap.size 0 zeroH (.slice none 0 0) (.slice none 0 0) ∧ Kept (fun _ => False) w w' := by
  have HB := Lib.hid (show HRow (w.alloc (.cells #[.int .i64 0, .int .i64 0, .int .u64 0, .int .i64 0, .slice none 0 0, .int .i64 0, .slice none 0 0] 97)) w.heap.size 0 zeroH (.slice none 0 0) (.slice none 0 0) from heap_alloc_new w _)
  go_enter Tryd.func37, Tryd.ntmps37
  go_wp2
  go_ret
  exact ⟨rfl, HB.out, (Kept.refl _ _).alloc _⟩
set_option maxHeartbeats 400000 in
theorem hlen_any (r n : Nat) (h : HistV) (pv nv : Value) (w : World) (hr : HRow w r n h pv nv) :
    Calls Tryd.prog 42 #[.pointer (some ⟨r, 0, none⟩)] w fun e w' => e = .returned (.int .i64 (n : Int)) ∧ w' = w := by
  obtain ⟨x0, _⟩ := hr.c
  clear hr
  go_enter Tryd.func42, Tryd.ntmps42
  go_wp2
  go_ret
  exact ⟨rfl, rfl⟩

/-- A row that went on by h: w1, the world ahead of the stores. -/
def GoneOn (r n : Nat) (g h : HistV) (gp gn : Value) (w w' : World) : Prop :=
  ∃ p' n' w1, HRow w' r (n + 1) h p' n' ∧ Mine w w1 28 p' (uvals h.pl) ∧ Mine w w1 28 n' (uvals h.nl) ∧ HRow w1 r n g gp gn ∧ Kept (fun k => k = r) w1 w'

set_option maxHeartbeats 2000000 in
theorem hgoOn_any (r n : Nat) (g h : HistV) (gp gn pv nv : Value) (w : World) (hr : HRow w r n g gp gn) (ha : HistAt w h pv nv) (hn : n ≤ 1000000) (hp : h.pl.length ≤ 1000000) (hnn : h.nl.length ≤ 1000000) :
    Calls Tryd.prog 68 #[.pointer (some ⟨r, 0, none⟩), histV h pv nv] w fun e w' => e = .returned (.tuple #[]) ∧ GoneOn r n g h gp gn w w' := by
  obtain ⟨⟨ao, c, rfl⟩, bo, d, rfl⟩ := ha.sl
  obtain ⟨sc, ze, po, pl, no, nl⟩ := h
  have hcl := fun w' (k : Kept (fun _ => False) w w') => hclone_any ⟨sc, ze, po, pl, no, nl⟩ _ _ w' (ha.on k) hp hnn
  unfold histV at hcl ⊢
  simp only at hp hnn ha hcl ⊢
  have HCL := Lib.hid hcl
  have HR := Lib.hid hr
  obtain ⟨w0, hw0⟩ : ∃ w0, w0 = w.alloc (.cells #[.int .i64 sc, .int .u64 (ze : Int), .int .i64 po, .slice ao pl.length c, .int .i64 no, .slice bo nl.length d] 62) := ⟨_, rfl⟩
  have HB := Lib.hid (show HistBox w0 w.heap.size ⟨sc, ze, po, pl, no, nl⟩ (.slice ao pl.length c) (.slice bo nl.length d) by rw [hw0]; exact heap_alloc_new w _)
  have HK := Lib.hid (show Kept (fun _ => False) w w0 by rw [hw0]; exact (Kept.refl _ _).alloc _)
  have HW0 := Lib.hid hw0
  obtain ⟨q, hq⟩ : ∃ q, q = w.heap.size := ⟨_, rfl⟩
  have HQ := Lib.hid hq
  rw [← hq] at HB
  have nw : IntKind.i64.wrap ((n : Int) + 1) = (n : Int) + 1 := IntWalk.i64_in _ ⟨by omega, by omega⟩
  have HNC := Lib.hid (show ((n + 1 : Nat) : Int) = (n : Int) + 1 by omega)
  clear ha hp hnn hw0 hq hcl hr hn
  obtain ⟨x0, x1, x2, x3, x4, x5⟩ := HB.out.c
  simp only at x0 x1 x2 x3 x4 x5
  go_enter Tryd.func68, Tryd.ntmps68
  go_upto_region 1 with fail
  rw [← HW0.out, ← HQ.out]
  go_wp2_with fail
  refine (HCL.out w0 HK.out).mono ?_
  rintro e w1 ⟨p', n', rfl, m1, m2⟩
  obtain ⟨a1, c1, rfl⟩ := m1.slice
  obtain ⟨a2, c2, rfl⟩ := m2.slice
  rw [uvals_length] at m1 m2 ⊢
  rw [uvals_length]
  have HM1 := Lib.hid (m1.down HK.out)
  have HM2 := Lib.hid (m2.down HK.out)
  have HR1 := Lib.hid (HR.out.same (HK.out.trans m1.kept) (fun x => x))
  clear m1 m2 x0 x1 x2 x3 x4 x5
  obtain ⟨y0, y1, y2, y3, y4, y5, y6⟩ := HR1.out.c
  have f1 := HR1.out.f 1
  have f2 := HR1.out.f 2
  have f3 := HR1.out.f 3
  have f4 := HR1.out.f 4
  have f5 := HR1.out.f 5
  have f6 := HR1.out.f 6
  go_upto_region 2 with fail
  have HR2 := Lib.hid (HR1.out.set ⟨sc, ze, po, pl, no, nl⟩ (.slice a1 pl.length c1) (.slice a2 nl.length c2))
  have hk2 := setHR_kept w1 r (.int .i64 sc) (.int .u64 (ze : Int)) (.int .i64 po) (.slice a1 pl.length c1) (.int .i64 no) (.slice a2 nl.length c2)
  simp only at HR2
  obtain ⟨w2, hw2⟩ : ∃ w', w' = setHR w1 r (.int .i64 sc) (.int .u64 (ze : Int)) (.int .i64 po) (.slice a1 pl.length c1) (.int .i64 no) (.slice a2 nl.length c2) := ⟨_, rfl⟩
  rw [← hw2] at HR2 hk2
  unfold setHR at hw2
  rw [← hw2]
  have HK2 := Lib.hid hk2
  clear hw2 hk2 y0 y1 y2 y3 y4 y5 y6 f1 f2 f3 f4 f5 f6
  obtain ⟨y0, _⟩ := HR2.out.c
  have f0 := HR2.out.f 0
  go_wp2
  go_end0
  refine ⟨rfl, .slice a1 pl.length c1, .slice a2 nl.length c2, w1, ?_, HM1.out, HM2.out, HR1.out, HK2.out.setCell (p := ⟨r, 0, none⟩) (fun _ => rfl) _⟩
  have := HR2.out.setN (n + 1)
  rw [HNC.out] at this
  exact this
end Go.Proofs.YtjpnfadmblmjbaaDoor
/- Plain facts on bits: a number's bits as a list, a list of bits as a number, and as bytes. -/
namespace Go.Proofs.YtjpnfadmblmjbaaDoor

/-- The number below 2^n whose bit i is f i. -/
def natOf (f : Nat → Bool) : Nat → Nat
  | 0 => 0
  | n + 1 => natOf f n + (f n).toNat * 2 ^ n
theorem natOf_lt (f : Nat → Bool) (n : Nat) : natOf f n < 2 ^ n := by
  induction n with
  | zero => simp [natOf]
  | succ n ih => unfold natOf; have : (f n).toNat ≤ 1 := Bool.toNat_le _; have h2 : (f n).toNat * 2 ^ n ≤ 1 * 2 ^ n := Nat.mul_le_mul_right _ this; omega
theorem natOf_testBit (f : Nat → Bool) (n i : Nat) : (natOf f n).testBit i = (decide (i < n) && f i) := by
  induction n with
  | zero => simp [natOf]
  | succ n ih =>
    have hlt := natOf_lt f n
    unfold natOf
    rw [Nat.add_comm, Nat.mul_comm]
    rcases Nat.lt_trichotomy i n with h | h | h
    · rw [Nat.testBit_two_pow_mul_add _ hlt, if_pos h, ih]
      simp [h, Nat.lt_succ_of_lt h]
    · subst h
      rw [Nat.testBit_two_pow_mul_add _ hlt, if_neg (Nat.lt_irrefl _)]
      cases f i <;> simp
    · rw [Nat.testBit_two_pow_mul_add _ hlt, if_neg (by omega)]
      have h1 : i - n ≠ 0 := by omega
      have h2 : ¬ i < n + 1 := by omega
      simp only [h2, decide_false, Bool.false_and]
      cases f n
      · simp
      · simp only [Bool.toNat_true]
        exact Nat.testBit_lt_two_pow (Nat.one_lt_two_pow h1)
theorem natOf_congr {f g : Nat → Bool} {n : Nat} (h : ∀ i, i < n → f i = g i) : natOf f n = natOf g n := by
  induction n with
  | zero => rfl
  | succ n ih => unfold natOf; rw [ih (fun i hi => h i (by omega)), h n (by omega)]
theorem natOf_self (v n : Nat) (h : v < 2 ^ n) : natOf v.testBit n = v := by
  apply Nat.eq_of_testBit_eq
  intro i
  rw [natOf_testBit]
  by_cases hi : i < n
  · simp [hi]
  · rw [Nat.testBit_lt_two_pow (Nat.lt_of_lt_of_le h (Nat.pow_le_pow_right (by omega) (by omega)))]
    simp [hi]

/-- The n lowest bits of a number, the highest first. -/
def bitsN (v n : Nat) : List Bool := (List.range n).map fun i => v.testBit (n - 1 - i)
@[simp] theorem bitsN_length (v n : Nat) : (bitsN v n).length = n := by simp [bitsN]
theorem bitsN_get (v n i : Nat) : (bitsN v n)[i]? = if i < n then some (v.testBit (n - 1 - i)) else none := by
  unfold bitsN
  by_cases h : i < n
  · simp [h]
  · simp [h]
theorem bitsN_getD (v n i : Nat) : (bitsN v n).getD i false = (decide (i < n) && v.testBit (n - 1 - i)) := by
  rw [List.getD_eq_getElem?_getD, bitsN_get]
  by_cases h : i < n <;> simp [h]
theorem bitsN_add (v a b : Nat) : bitsN v (a + b) = bitsN (v / 2 ^ b) a ++ bitsN v b := by
  apply List.ext_getElem?
  intro i
  rw [List.getElem?_append, bitsN_get, bitsN_get, bitsN_get, bitsN_length]
  by_cases h : i < a
  · rw [if_pos h, if_pos (by omega), if_pos h, Nat.testBit_div_two_pow]
    congr 2; omega
  · rw [if_neg h]
    by_cases h2 : i < a + b
    · rw [if_pos h2, if_pos (by omega)]
      congr 2; omega
    · rw [if_neg h2, if_neg (by omega)]
theorem bitsN_mod (v n : Nat) : bitsN (v % 2 ^ n) n = bitsN v n := by
  apply List.ext_getElem?
  intro i
  rw [bitsN_get, bitsN_get]
  by_cases h : i < n
  · rw [if_pos h, if_pos h, Nat.testBit_mod_two_pow]
    simp; omega
  · rw [if_neg h, if_neg h]

/-- The number that bits tell, the highest first. -/
def numB (l : List Bool) : Nat := natOf (fun i => l.getD (l.length - 1 - i) false) l.length
theorem numB_lt (l : List Bool) : numB l < 2 ^ l.length := natOf_lt _ _
theorem numB_testBit (l : List Bool) (i : Nat) : (numB l).testBit i = (decide (i < l.length) && l.getD (l.length - 1 - i) false) := natOf_testBit _ _ _
@[simp] theorem numB_nil : numB [] = 0 := rfl
theorem numB_bitsN (v n : Nat) (h : v < 2 ^ n) : numB (bitsN v n) = v := by
  apply Nat.eq_of_testBit_eq
  intro i
  rw [numB_testBit, bitsN_length, bitsN_getD]
  by_cases hi : i < n
  · have e : n - 1 - (n - 1 - i) = i := by omega
    rw [e]; simp [hi]; omega
  · have e : v.testBit i = false := Nat.testBit_lt_two_pow (Nat.lt_of_lt_of_le h (Nat.pow_le_pow_right (by omega) (by omega)))
    rw [e]; simp [hi]
theorem bitsN_numB (l : List Bool) : bitsN (numB l) l.length = l := by
  apply List.ext_getElem?
  intro i
  rw [bitsN_get]
  by_cases h : i < l.length
  · rw [if_pos h, numB_testBit, List.getD_eq_getElem?_getD]
    have e : l.length - 1 - (l.length - 1 - i) = i := by omega
    rw [e, List.getElem?_eq_getElem h]
    simp; omega
  · rw [if_neg h, List.getElem?_eq_none (by omega)]
theorem numB_append (a b : List Bool) : numB (a ++ b) = numB a * 2 ^ b.length + numB b := by
  apply Nat.eq_of_testBit_eq
  intro i
  rw [Nat.mul_comm, Nat.testBit_two_pow_mul_add _ (numB_lt b), numB_testBit, numB_testBit, numB_testBit]
  simp only [List.length_append, List.getD_eq_getElem?_getD, List.getElem?_append]
  by_cases h : i < b.length
  · rw [if_pos h, if_neg (by omega)]
    have e : a.length + b.length - 1 - i - a.length = b.length - 1 - i := by omega
    rw [e]
    simp [h, show i < a.length + b.length by omega]
  · rw [if_neg h]
    by_cases h2 : i < a.length + b.length
    · rw [if_pos (by omega)]
      have e : a.length + b.length - 1 - i = a.length - 1 - (i - b.length) := by omega
      rw [e]
      simp [h2, show i - b.length < a.length by omega]
    · simp [h2, show ¬ i - b.length < a.length by omega]
theorem numB_snoc (a : List Bool) (b : Bool) : numB (a ++ [b]) = 2 * numB a + b.toNat := by
  rw [numB_append]
  have : numB [b] = b.toNat := by cases b <;> rfl
  rw [this]; simp; omega

/-- The byte j of bits, filled up by noughts. -/
def byteAt (bs : List Bool) (j : Nat) : Nat := natOf (fun i => bs.getD (8 * j + (7 - i)) false) 8
/-- Bits as bytes. -/
def packB (bs : List Bool) : List Nat := (List.range ((bs.length + 7) / 8)).map (byteAt bs)
theorem byteAt_lt (bs : List Bool) (j : Nat) : byteAt bs j < 256 := natOf_lt _ 8
theorem byteAt_testBit (bs : List Bool) (j i : Nat) : (byteAt bs j).testBit i = (decide (i < 8) && bs.getD (8 * j + (7 - i)) false) := natOf_testBit _ _ _
theorem packB_length (bs : List Bool) : (packB bs).length = (bs.length + 7) / 8 := by simp [packB]
theorem packB_get (bs : List Bool) (j : Nat) (h : j < (bs.length + 7) / 8) : (packB bs)[j]? = some (byteAt bs j) := by
  unfold packB; simp [h]
theorem packB_getD (bs : List Bool) (j : Nat) : (packB bs).getD j 0 = byteAt bs j := by
  rw [List.getD_eq_getElem?_getD]
  by_cases h : j < (bs.length + 7) / 8
  · rw [packB_get bs j h]; rfl
  · rw [List.getElem?_eq_none (by rw [packB_length]; omega)]
    show 0 = _
    symm
    apply Nat.eq_of_testBit_eq
    intro i
    rw [byteAt_testBit, List.getD_eq_getElem?_getD, List.getElem?_eq_none (by omega)]
    simp
@[simp] theorem packB_nil : packB [] = [] := rfl
theorem packB_lt (bs : List Bool) : ∀ x ∈ packB bs, x < 256 := by
  intro x hx
  simp only [packB, List.mem_map, List.mem_range] at hx
  obtain ⟨j, _, rfl⟩ := hx
  exact byteAt_lt _ _

/-- Bits that are added within the last byte. -/
theorem byteAt_append (bs add : List Bool) (r : Nat) (hr : bs.length % 8 = r) (hk : add.length ≤ 8 - r) (j : Nat) :
    byteAt (bs ++ add) j = if j = bs.length / 8 then byteAt bs j ||| numB add * 2 ^ (8 - r - add.length) else byteAt bs j := by
  apply Nat.eq_of_testBit_eq
  intro i
  by_cases hj : j = bs.length / 8
  · rw [if_pos hj, Nat.testBit_or, byteAt_testBit, byteAt_testBit, Nat.testBit_mul_two_pow, numB_testBit]
    simp only [List.getD_eq_getElem?_getD, List.getElem?_append]
    by_cases hi : i < 8
    · by_cases h1 : 8 * j + (7 - i) < bs.length
      · rw [if_pos h1]
        have h2 : ¬ i - (8 - r - add.length) < add.length ∨ i < 8 - r - add.length := by omega
        rcases h2 with h2 | h2
        · simp [hi, h2]
        · simp [hi, show ¬ (8 - r - add.length ≤ i) by omega]
      · rw [if_neg h1, List.getElem?_eq_none (l := bs) (by omega)]
        by_cases h3 : 8 * j + (7 - i) - bs.length < add.length
        · have e : 8 * j + (7 - i) - bs.length = add.length - 1 - (i - (8 - r - add.length)) := by omega
          rw [e]
          simp [hi, show 8 - r - add.length ≤ i by omega, show i - (8 - r - add.length) < add.length by omega]
        · rw [List.getElem?_eq_none (by omega)]
          simp [show ¬ (8 - r - add.length ≤ i) by omega]
    · have : ¬ i - (8 - r - add.length) < add.length := by omega
      simp [hi, this]
  · rw [if_neg hj, byteAt_testBit, byteAt_testBit]
    simp only [List.getD_eq_getElem?_getD, List.getElem?_append]
    by_cases hi : i < 8
    · by_cases h1 : 8 * j + (7 - i) < bs.length
      · rw [if_pos h1]
      · rw [if_neg h1, List.getElem?_eq_none (l := bs) (by omega), List.getElem?_eq_none (by omega)]
    · simp [hi]

/-- The next bits out of a byte: shifted and cut. -/
theorem byte_part (bs : List Bool) (t k : Nat) (hk : k ≤ 8 - t % 8) (hl : t + k ≤ bs.length) :
    byteAt bs (t / 8) / 2 ^ (8 - t % 8 - k) % 2 ^ k = numB ((bs.drop t).take k) := by
  apply Nat.eq_of_testBit_eq
  intro i
  have hlen : ((bs.drop t).take k).length = k := by rw [List.length_take, List.length_drop]; omega
  rw [Nat.testBit_mod_two_pow, Nat.testBit_div_two_pow, byteAt_testBit, numB_testBit, hlen]
  by_cases hi : i < k
  · simp only [List.getD_eq_getElem?_getD]
    rw [List.getElem?_take, if_pos (by omega), List.getElem?_drop]
    have e : 8 * (t / 8) + (7 - (i + (8 - t % 8 - k))) = t + (k - 1 - i) := by omega
    rw [e]
    simp [hi, show i + (8 - t % 8 - k) < 8 by omega]
  · simp [hi]

/-- Bits that are cut off. -/
theorem byteAt_take (bs : List Bool) (n j : Nat) :
    byteAt (bs.take n) j = if j = n / 8 then byteAt bs j / 2 ^ (8 - n % 8) * 2 ^ (8 - n % 8) else if j < n / 8 then byteAt bs j else 0 := by
  apply Nat.eq_of_testBit_eq
  intro i
  rw [byteAt_testBit]
  simp only [List.getD_eq_getElem?_getD, List.getElem?_take]
  by_cases hj : j = n / 8
  · rw [if_pos hj, Nat.testBit_mul_two_pow, Nat.testBit_div_two_pow, byteAt_testBit]
    by_cases hi : i < 8
    · by_cases h1 : 8 * j + (7 - i) < n
      · rw [if_pos h1]
        have e : i - (8 - n % 8) + (8 - n % 8) = i := by omega
        rw [e]
        simp [hi, show 8 - n % 8 ≤ i by omega]
      · rw [if_neg h1]
        simp [show ¬ (8 - n % 8 ≤ i) by omega]
    · simp [hi]; omega
  · rw [if_neg hj]
    by_cases h2 : j < n / 8
    · rw [if_pos h2, byteAt_testBit]
      by_cases hi : i < 8
      · rw [if_pos (by omega)]; simp
      · simp [hi]
    · rw [if_neg h2, if_neg (by omega)]; simp
theorem packB_eq {bs : List Bool} {l : List Nat} (hl : l.length = (bs.length + 7) / 8) (h : ∀ j, j < l.length → l[j]? = some (byteAt bs j)) : l = packB bs := by
  apply List.ext_getElem?
  intro j
  by_cases hj : j < l.length
  · rw [h j hj, packB_get _ _ (by omega)]
  · rw [List.getElem?_eq_none (by omega), List.getElem?_eq_none (by rw [packB_length]; omega)]

/-- Bytes as bits. -/
def bitsOf (l : List Nat) : List Bool := l.flatMap fun x => bitsN x 8
@[simp] theorem bitsOf_nil : bitsOf [] = [] := rfl
theorem bitsOf_cons (x : Nat) (l : List Nat) : bitsOf (x :: l) = bitsN x 8 ++ bitsOf l := rfl
theorem bitsOf_append (a b : List Nat) : bitsOf (a ++ b) = bitsOf a ++ bitsOf b := by simp [bitsOf]
@[simp] theorem bitsOf_length (l : List Nat) : (bitsOf l).length = 8 * l.length := by
  induction l with
  | nil => rfl
  | cons x l ih => rw [bitsOf_cons, List.length_append, ih]; simp; omega
theorem bitsOf_getD (l : List Nat) (j i : Nat) (hi : i < 8) : (bitsOf l).getD (8 * j + (7 - i)) false = (l.getD j 0).testBit i := by
  induction l generalizing j with
  | nil => simp
  | cons x l ih =>
    rw [bitsOf_cons]
    cases j with
    | zero =>
      simp only [List.getD_eq_getElem?_getD]
      rw [List.getElem?_append_left (by simp; omega), bitsN_get, if_pos (by omega)]
      simp
      congr 1; omega
    | succ j =>
      have := ih j
      simp only [List.getD_eq_getElem?_getD] at this ⊢
      rw [List.getElem?_append_right (by simp; omega), bitsN_length]
      have e : 8 * (j + 1) + (7 - i) - 8 = 8 * j + (7 - i) := by omega
      rw [e, this]
      simp
theorem byteAt_bitsOf (l : List Nat) (j : Nat) (h : ∀ x ∈ l, x < 256) : byteAt (bitsOf l) j = l.getD j 0 := by
  have hlt : l.getD j 0 < 2 ^ 8 := by
    rw [List.getD_eq_getElem?_getD]
    by_cases hj : j < l.length
    · rw [List.getElem?_eq_getElem hj]; exact h _ (List.getElem_mem hj)
    · rw [List.getElem?_eq_none (by omega)]; decide
  rw [← natOf_self (l.getD j 0) 8 hlt]
  unfold byteAt
  exact natOf_congr fun i hi => bitsOf_getD l j i hi
theorem packB_bitsOf (l : List Nat) (h : ∀ x ∈ l, x < 256) : packB (bitsOf l) = l := by
  symm
  apply packB_eq (by simp; omega)
  intro j hj
  rw [byteAt_bitsOf l j h, List.getD_eq_getElem?_getD, List.getElem?_eq_getElem hj]; rfl
end Go.Proofs.YtjpnfadmblmjbaaDoor
/- package bitio: what a writer and a reader are in memory; the small calls. -/
namespace Go.Proofs.YtjpnfadmblmjbaaDoor
open Go.RowKit
attribute [local go_sem ↓] Go.wp_at_zero Go.wp_at_succ

theorem Tryd.infoU8 : (Tryd.prog.info? 5).map (fun i => (i.zero, i.size, i.bytes)) = some (some (.int .u8 0), 1, 1) := by kernel_rfl

/-- Bytes as values. -/
def bys (l : List Nat) : List Value := l.map fun (n : Nat) => Value.int .u8 (n : Int)
@[simp] theorem bys_length (l : List Nat) : (bys l).length = l.length := by simp [bys]
theorem bys_append (a b : List Nat) : bys (a ++ b) = bys a ++ bys b := by simp [bys]
theorem bys_one (l : List Nat) : ∀ u ∈ bys l, u.oneCell' = true := by
  intro u hu; obtain ⟨x, _, rfl⟩ := List.mem_map.1 hu; rfl
theorem bys_get {l : List Nat} {j : Nat} (h : j < l.length) : (bys l)[j]? = some (.int .u8 ((l.getD j 0 : Nat) : Int)) := by
  simp [bys, List.getD_eq_getElem?_getD, List.getElem?_eq_getElem h]

/-- A new slice of the values xs. -/
def FreshV (E : TypeId) (w : World) (xs : List Value) (e : Ending) (w' : World) : Prop :=
  ∃ v, e = .returned v ∧ w'.ownsRow w.heap.size E 1 v xs.length xs ∧ Kept (fun _ => False) w w'

set_option maxHeartbeats 400000 in
theorem bclone_any (v : Value) (xs : List Value) (w : World) (hv : SlAt w v xs) (h1 : ∀ u ∈ xs, u.oneCell' = true) (hl : xs.length ≤ 100000000000) :
    Calls Tryd.prog 53 #[v] w (FreshV 5 w xs) := by
  obtain ⟨i0, hi, hz0, hz1, hz2⟩ := info_parts Tryd.infoU8
  have q29 := fun (w : World) (a : Option Addr) (n c n' c' : Nat) => Lib.run_eql_slice_nil (P := Tryd.prog) w 33 5 a n c n' c' Tryd.underlying33
  have hv0 := hv
  obtain ⟨ao, c, rfl, hn, hcl⟩ := hv.val
  cases ao with
  | none =>
    obtain rfl := hn rfl
    clear hcl hn hv hv0
    go_enter Tryd.func53, Tryd.ntmps53
    go_wp2
    go_ret
    exact ⟨_, rfl, World.ownsRow_nil _ _ _ _, Kept.refl _ _⟩
  | some a =>
    have hs := (hv.kept (((Kept.refl (fun _ => False) w).alloc (.cells #[] 5))) (fun _ _ h => h)).src Tryd.underlying33 h1
    have hown0 : (w.alloc (.cells #[] 5)).ownsRow w.heap.size 5 1 (.slice (some ⟨w.heap.size, 0, none⟩) 0 0) 0 [] :=
      ⟨rfl, .inr ⟨w.heap.size, 0, #[], rfl, Nat.le_refl _, heap_alloc_new w _, Nat.le_refl _, by unfold maxLen; omega, rfl, rfl⟩⟩
    clear hcl hn hv hv0
    go_enter Tryd.func53, Tryd.ntmps53
    go_wp2_with (at_builtin; refine wpList_append_src _ rfl (.tmp 5) (.tmp 6) 33 33 rfl w.heap.size 5 i0 (.int .u8 0) 1 1 Tryd.underlying33 hi hz0 hz1 hz2 rfl (.slice (some ⟨w.heap.size, 0, none⟩) 0 0) 0 [] rfl hown0 (.slice (some a) xs.length c) xs.length xs rfl hs ?c1 ?c2 ?c3 ?_)
    case c1 => unfold maxLen; omega
    case c2 => omega
    case c3 => first | omega | (simp; try omega)
    · intro v' w1 hown hg _ hat
      have hk : Kept (fun _ => False) w w1 := ((Kept.refl _ w).alloc _).grown hg (fun k hk hlt => by simp [Value.ownBlock] at hk; omega)
      have hf : FreshV 5 w xs (.returned v') w1 := ⟨v', rfl, by simpa using hown, hk⟩
      clear hown hg hat hs hown0
      go_wp2
      go_ret
      exact hf

/-- The writer behind the pointer to block p holds the bits bs, in the slice v. -/
structure BwAt (w : World) (B p : Nat) (v : Value) (bs : List Bool) : Prop where
  base : B ≤ p
  box : w.heap[p]? = some (.cells #[v, .int .i64 bs.length] 80 (0, 0))
  owns : w.ownsRow B 5 1 v (packB bs).length (bys (packB bs))
  apart : v.ownBlock ≠ some p

/-- What a call on it leaves. -/
def BwTo (w w' : World) (B p : Nat) (v : Value) (bs : List Bool) : Prop :=
  ∃ v', BwAt w' B p v' bs ∧ (v'.ownBlock = v.ownBlock ∨ ∃ k, v'.ownBlock = some k ∧ w.heap.size ≤ k) ∧ Kept (fun k => k = p ∨ v.ownBlock = some k) w w'

section
variable {w w' w1 : World} {B p : Nat} {v : Value} {bs bs1 : List Bool} {S : Nat → Prop}
theorem BwAt.to (h : BwAt w B p v bs) : BwTo w w B p v bs := ⟨v, h, .inl rfl, Kept.refl _ _⟩
theorem BwAt.lt (h : BwAt w B p v bs) : p < w.heap.size := (Array.getElem?_eq_some_iff.1 h.box).1
theorem BwAt.kept (h : BwAt w B p v bs) (hk : Kept S w w') (hp : ¬ S p) (hv : ∀ k, v.ownBlock = some k → ¬ S k) : BwAt w' B p v bs :=
  ⟨h.base, hk.same h.box hp, hk.owns h.owns hv, h.apart⟩
theorem BwAt.keptF (h : BwAt w B p v bs) (hk : Kept (fun _ => False) w w') : BwAt w' B p v bs := h.kept hk (fun x => x) (fun _ _ x => x)
theorem BwAt.c0 (h : BwAt w B p v bs) : w.cell? ⟨p, 0, none⟩ = some v := by rw [cell_of_row w p 0 _ _ _ h.box]; rfl
theorem BwAt.c1 (h : BwAt w B p v bs) : w.cell? ⟨p, 1, none⟩ = some (.int .i64 bs.length) := by rw [cell_of_row w p 1 _ _ _ h.box]; rfl
theorem BwAt.free (h : BwAt w B p v bs) (j : Nat) : w.frozen? ⟨p, j, none⟩ = false := by simp [World.frozen?, h.box]
theorem BwTo.part (h : BwTo w w1 B p v bs1) :
    ∃ v1, BwAt w1 B p v1 bs1 ∧ w.heap.size ≤ w1.heap.size ∧ Hid (∀ w2 l2, BwTo w1 w2 B p v1 l2 → BwTo w w2 B p v l2) := by
  obtain ⟨v1, h1, a1, k1⟩ := h
  refine ⟨v1, h1, k1.size, fun w2 l2 k => ?_⟩
  obtain ⟨v2, h2, a2, k2⟩ := k
  refine ⟨v2, h2, ?_, k1.step k2 ?_⟩
  · rcases a2 with a2 | ⟨g, e, hg⟩
    · rw [a2]
      rcases a1 with a1 | a1
      · exact .inl a1
      · exact .inr a1
    · exact .inr ⟨g, e, Nat.le_trans k1.size hg⟩
  · intro k hk hS
    rcases hS with rfl | hS
    · exact .inl rfl
    · rcases a1 with a1 | ⟨g, e, hg⟩
      · exact .inr (a1 ▸ hS)
      · rw [e] at hS; cases hS; omega
end

/-- The reader behind the pointer to block p has the bits bs, of which t are taken; its bytes lie in the slice v. -/
structure BrAt (w : World) (B p : Nat) (v : Value) (bs : List Bool) (t : Nat) : Prop where
  base : B ≤ p
  box : w.heap[p]? = some (.cells #[v, .int .i64 bs.length, .int .i64 t] 88 (0, 0))
  owns : w.ownsRow B 5 1 v (packB bs).length (bys (packB bs))
  apart : v.ownBlock ≠ some p
  taken : t ≤ bs.length

section
variable {w w' : World} {B p : Nat} {v : Value} {bs : List Bool} {t : Nat} {S : Nat → Prop}
theorem BrAt.lt (h : BrAt w B p v bs t) : p < w.heap.size := (Array.getElem?_eq_some_iff.1 h.box).1
theorem BrAt.kept (h : BrAt w B p v bs t) (hk : Kept S w w') (hp : ¬ S p) (hv : ∀ k, v.ownBlock = some k → ¬ S k) : BrAt w' B p v bs t :=
  ⟨h.base, hk.same h.box hp, hk.owns h.owns hv, h.apart, h.taken⟩
theorem BrAt.keptF (h : BrAt w B p v bs t) (hk : Kept (fun _ => False) w w') : BrAt w' B p v bs t := h.kept hk (fun x => x) (fun _ _ x => x)
theorem BrAt.drewN (h : BrAt w B p v bs t) (q : Nat) : BrAt (w.drewN q) B p v bs t := h.keptF ((Kept.refl _ w).drewN q)
theorem BrAt.c0 (h : BrAt w B p v bs t) : w.cell? ⟨p, 0, none⟩ = some v := by rw [cell_of_row w p 0 _ _ _ h.box]; rfl
theorem BrAt.c1 (h : BrAt w B p v bs t) : w.cell? ⟨p, 1, none⟩ = some (.int .i64 bs.length) := by rw [cell_of_row w p 1 _ _ _ h.box]; rfl
theorem BrAt.c2 (h : BrAt w B p v bs t) : w.cell? ⟨p, 2, none⟩ = some (.int .i64 t) := by rw [cell_of_row w p 2 _ _ _ h.box]; rfl
theorem BrAt.free (h : BrAt w B p v bs t) (j : Nat) : w.frozen? ⟨p, j, none⟩ = false := by simp [World.frozen?, h.box]
end

set_option maxHeartbeats 400000 in
theorem bnew_any (w : World) :
    Calls Tryd.prog 11 #[] w fun e w' => e = .returned (.pointer (some ⟨w.heap.size, 0, none⟩)) ∧ w' = w.alloc (.cells #[.slice none 0 0, .int .i64 0] 80) := by
  go_enter Tryd.func11, Tryd.ntmps11
  go_wp2
  go_ret
  exact ⟨rfl, rfl⟩
theorem bnew_at (B : Nat) (w : World) (hB : B ≤ w.heap.size) : BwAt (w.alloc (.cells #[.slice none 0 0, .int .i64 0] 80)) B w.heap.size (.slice none 0 0) [] :=
  ⟨hB, heap_alloc_new w _, by exact World.ownsRow_nil _ _ _ _, by simp [Value.ownBlock]⟩

set_option maxHeartbeats 400000 in
theorem bwlen_any (B p : Nat) (v : Value) (bs : List Bool) (w : World) (HW : BwAt w B p v bs) :
    Calls Tryd.prog 16 #[.pointer (some ⟨p, 0, none⟩)] w fun e w' => e = .returned (.int .i64 bs.length) ∧ w = w' := by
  have hc := HW.c1
  go_enter Tryd.func16, Tryd.ntmps16
  go_wp2
  go_ret
  exact ⟨rfl, rfl⟩

set_option maxHeartbeats 400000 in
theorem bwbytes_any (B p : Nat) (v : Value) (bs : List Bool) (w : World) (HW : BwAt w B p v bs) (hl : bs.length ≤ 100000000000) :
    Calls Tryd.prog 17 #[.pointer (some ⟨p, 0, none⟩)] w (FreshV 5 w (bys (packB bs))) := by
  have hc := HW.c0
  have hv := SlAt.ofOwn HW.owns
  obtain ⟨ao, cp, rfl⟩ := ownsRow_slice HW.owns
  go_enter Tryd.func17, Tryd.ntmps17
  go_wp2_with fail
  refine (bclone_any _ _ w hv (bys_one _) (by rw [bys_length, packB_length]; omega)).mono ?_
  rintro e w' ⟨v', rfl, hf⟩
  go_wp2
  go_ret
  exact ⟨v', rfl, hf⟩

set_option maxHeartbeats 400000 in
theorem bsize_any (n : Nat) (hn : n ≤ 9223372036854775807) (w : World) :
    Calls Tryd.prog 54 #[.int .i64 n] w fun e w' => e = .returned (.int .i64 (((n + 7) / 8 : Nat) : Int)) ∧ w = w' := by
  have hs : n % 8 = 0 ∨ 0 < n % 8 := by omega
  have h0 : (0 : Int) ≤ (n : Int) := by omega
  rcases hs with h | h
  · have hd : decide (0 < (n : Int) % 8) = false := by simp; omega
    have e0 : (((n + 7) / 8 : Nat) : Int) = (n : Int) / 8 := by omega
    rw [e0]
    clear e0
    go_enter Tryd.func54, Tryd.ntmps54
    go_wp2
    go_ret
    exact ⟨rfl, rfl⟩
  · have hd : decide (0 < (n : Int) % 8) = true := by simp; omega
    have e0 : (((n + 7) / 8 : Nat) : Int) = (n : Int) / 8 + 1 := by omega
    have e1 : IntKind.i64.wrap ((n : Int) / 8 + 1) = (n : Int) / 8 + 1 := IntWalk.i64_in _ ⟨by omega, by omega⟩
    rw [e0]
    clear e0
    go_enter Tryd.func54, Tryd.ntmps54
    go_wp2
    go_ret
    exact ⟨rfl, rfl⟩

/-- The world is as it was, but for draws. -/
def Drew (w w' : World) (P : Prop) : Prop := P ∧ ∃ q, w' = w.drewN q

set_option maxHeartbeats 400000 in
theorem bleft_any (B p : Nat) (v : Value) (bs : List Bool) (t : Nat) (w : World) (HR : BrAt w B p v bs t) (hl : bs.length ≤ 100000000000) :
    Calls Tryd.prog 32 #[.pointer (some ⟨p, 0, none⟩)] w fun e w' => Drew w w' (e = .returned (.int .i64 (((bs.length - t : Nat) : Int)))) := by
  have hc1 := HR.c1
  have hc2 := HR.c2
  have ht := HR.taken
  have e1 : IntKind.i64.wrap ((bs.length : Int) - (t : Int)) = ((bs.length - t : Nat) : Int) := by rw [IntWalk.i64_in _ ⟨by omega, by omega⟩]; omega
  go_enter Tryd.func32, Tryd.ntmps32
  go_wp2
  go_quiet (fail)
  go_wp2
  go_ret
  exact ⟨rfl, _, rfl⟩

set_option maxHeartbeats 400000 in
theorem bat_any (B p : Nat) (v : Value) (bs : List Bool) (t : Nat) (w : World) (HR : BrAt w B p v bs t) :
    Calls Tryd.prog 25 #[.pointer (some ⟨p, 0, none⟩)] w fun e w' => e = .returned (.int .i64 t) ∧ w = w' := by
  have hc1 := HR.c2
  go_enter Tryd.func25, Tryd.ntmps25
  go_wp2
  go_ret
  exact ⟨rfl, rfl⟩
end Go.Proofs.YtjpnfadmblmjbaaDoor
/- package bitio: Put. -/
namespace Go.Proofs.YtjpnfadmblmjbaaDoor
open Go.RowKit
attribute [local go_sem ↓] Go.wp_at_zero Go.wp_at_succ

/-- The bits bs behind which the first bits of v's n bits stand, all but m. -/
def putN (bs : List Bool) (v n m : Nat) : List Bool := bs ++ bitsN (v / 2 ^ m) (n - m)
theorem putN_all (bs : List Bool) (v n : Nat) : putN bs v n n = bs := by simp [putN, bitsN]
theorem putN_zero (bs : List Bool) (v n : Nat) : putN bs v n 0 = bs ++ bitsN v n := by simp [putN]
theorem putN_step (bs : List Bool) (v n m k : Nat) (_hm : m ≤ n) (hk : k ≤ m) : putN bs v n (m - k) = putN bs v n m ++ bitsN (v / 2 ^ (m - k)) k := by
  unfold putN
  have e : n - (m - k) = (n - m) + k := by omega
  rw [e, bitsN_add, Nat.div_div_eq_div_mul, ← Nat.pow_add, List.append_assoc]
  have e2 : m - k + k = m := by omega
  rw [e2]
theorem putN_length (bs : List Bool) (v n m : Nat) : (putN bs v n m).length = bs.length + (n - m) := by simp [putN]

set_option maxHeartbeats 1000000 in
theorem bput_no (B p : Nat) (v : Value) (bs : List Bool) (x : Nat) (n : Int) (w : World) (_HW : BwAt w B p v bs) (hx : x < 18446744073709551616)
    (hn : n < 0 ∨ 64 < n ∨ (0 ≤ n ∧ n ≤ 64 ∧ 2 ^ n.toNat ≤ x)) :
    Calls Tryd.prog 48 #[.pointer (some ⟨p, 0, none⟩), .int .u64 x, .int .i64 n] w fun e w' => e = .returned (.bool false) ∧ w = w' := by
  rcases hn with h | h | ⟨h0, h1, h2⟩
  · go_enter Tryd.func48, Tryd.ntmps48
    go_wp2
    go_ret
    exact ⟨rfl, rfl⟩
  · have h' : ¬ n < 0 := by omega
    go_enter Tryd.func48, Tryd.ntmps48
    go_wp2
    go_ret
    exact ⟨rfl, rfl⟩
  · have h' : ¬ n < 0 := by omega
    have h'' : ¬ 64 < n := by omega
    have h3 : n < 64 := by
      rcases Int.lt_or_eq_of_le h1 with h | h
      · exact h
      · subst h
        have e : (2 : Nat) ^ (64 : Int).toNat = 18446744073709551616 := by decide
        omega
    have hq : ((x : Int) / 2 ^ n.toNat != 0) = true := by
      obtain ⟨k, rfl⟩ : ∃ k : Nat, n = k := ⟨n.toNat, by omega⟩
      simp only [Int.toNat_natCast] at h2 ⊢
      have h4 : 1 ≤ x / 2 ^ k := (Nat.le_div_iff_mul_le (Nat.two_pow_pos k)).2 (by omega)
      have h5 : ((x : Int) / 2 ^ k) = ((x / 2 ^ k : Nat) : Int) := by simp
      rw [h5, bne_iff_ne]; omega
    go_enter Tryd.func48, Tryd.ntmps48
    go_wp2
    go_ret
    exact ⟨rfl, rfl⟩

/-- Bits as bytes, with room for more in the last one. -/
def packX (bs : List Bool) : List Nat := (List.range (bs.length / 8 + 1)).map (byteAt bs)
theorem packX_length (bs : List Bool) : (packX bs).length = bs.length / 8 + 1 := by simp [packX]
theorem packX_part (bs : List Bool) (h : bs.length % 8 ≠ 0) : packX bs = packB bs := by
  unfold packX packB
  have e : bs.length / 8 + 1 = (bs.length + 7) / 8 := by omega
  rw [e]
theorem byteAt_out (bs : List Bool) (j : Nat) (h : bs.length ≤ 8 * j) : byteAt bs j = 0 := by
  apply Nat.eq_of_testBit_eq
  intro i
  rw [byteAt_testBit, List.getD_eq_getElem?_getD, List.getElem?_eq_none (by omega)]
  simp
theorem packX_full (bs : List Bool) (h : bs.length % 8 = 0) : packX bs = packB bs ++ [0] := by
  unfold packX packB
  have e : (bs.length + 7) / 8 = bs.length / 8 := by omega
  rw [e, List.range_succ, List.map_append, List.map_cons, List.map_nil, byteAt_out bs _ (by omega)]
theorem packX_getD (bs : List Bool) : (packX bs).getD (bs.length / 8) 0 = byteAt bs (bs.length / 8) := by
  simp [packX, List.getD_eq_getElem?_getD]
theorem packX_set (bs add : List Bool) (hk : add.length ≤ 8 - bs.length % 8) (h0 : 0 < add.length) :
    (packX bs).set (bs.length / 8) (byteAt bs (bs.length / 8) ||| numB add * 2 ^ (8 - bs.length % 8 - add.length)) = packB (bs ++ add) := by
  apply packB_eq
  · rw [List.length_set, packX_length, List.length_append]; omega
  · intro j hj
    rw [List.length_set, packX_length] at hj
    rw [byteAt_append bs add _ rfl hk, List.getElem?_set, packX_length]
    by_cases h : bs.length / 8 = j
    · rw [if_pos h, if_pos (by omega), if_pos h.symm, h]
    · rw [if_neg h, if_neg (fun e => h e.symm)]
      unfold packX
      simp [hj]

/-- Ahead of a part's putting down: the last byte has room. -/
def PutMid (wr wc : World) (B p : Nat) (v : Value) (cur : List Bool) : Prop :=
  ∃ g cp, wc.heap[p]? = some (.cells #[.slice (some ⟨g, 0, none⟩) (cur.length / 8 + 1) cp, .int .i64 cur.length] 80 (0, 0)) ∧
    wc.ownsRow B 5 1 (.slice (some ⟨g, 0, none⟩) (cur.length / 8 + 1) cp) (packX cur).length (bys (packX cur)) ∧ g ≠ p ∧ (some g = v.ownBlock ∨ wr.heap.size ≤ g) ∧ B ≤ p ∧
    Kept (fun k => k = p ∨ v.ownBlock = some k) wr wc

theorem BwAt.mid {w : World} {B p : Nat} {v : Value} {bs : List Bool} (h : BwAt w B p v bs) (hr : bs.length % 8 ≠ 0) : PutMid w w B p v bs := by
  have hL : (packB bs).length = bs.length / 8 + 1 := by rw [packB_length]; omega
  have ho := h.owns
  have hbox := h.box
  have hap := h.apart
  rcases ho.2 with ⟨_, e⟩ | ⟨g, cap, cur, rfl, _⟩
  · omega
  · rw [hL] at hbox ho
    refine ⟨g, cap, hbox, ?_, fun e => hap (by rw [e]; rfl), .inl rfl, h.base, Kept.refl _ _⟩
    rw [packX_part bs hr, hL]
    exact ho
theorem BwAt.mid_push {w wa w2 : World} {B p : Nat} {v v2 : Value} {bs : List Bool} {n : Nat} (h : BwAt w B p v bs) (hr : bs.length % 8 = 0) (hk : Kept (fun _ => False) w wa)
    (hown : w2.ownsRow B 5 1 v2 n (bys (packB bs) ++ [.int .u8 0])) (hn : n = bs.length / 8 + 1) (hg : wa.grownBy w2 v.ownBlock) (hat : v2.ownBlock = v.ownBlock ∨ v2.ownBlock = some wa.heap.size) :
    PutMid w (w2.setCell ⟨p, 0, none⟩ v2) B p v bs := by
  subst hn
  have hp := h.lt
  have hpa : p < wa.heap.size := Nat.lt_of_lt_of_le hp hk.size
  have k2 : Kept (fun k => k = p ∨ v.ownBlock = some k) w w2 := (hk.mono (fun _ _ x => x.elim)).grown hg (fun k e _ => .inr e)
  have hbox : w2.heap[p]? = some (.cells #[v, .int .i64 bs.length] 80 (0, 0)) := by
    rw [hg.block p hpa (fun e => h.apart e.symm)]
    exact hk.same h.box (fun x => x)
  have hne : v2.ownBlock ≠ some p := by
    rcases hat with e | e
    · rw [e]; exact h.apart
    · rw [e]; simp; omega
  have hown2 := ((Kept.refl (fun k => k = p) w2).setCell (p := ⟨p, 0, none⟩) (fun _ => rfl) v2).owns hown (fun k e x => hne (by rw [e, x]))
  have hlen : (bys (packB bs) ++ [Value.int .u8 0]) = bys (packX bs) := by rw [packX_full bs hr, bys_append]; rfl
  rcases hown.2 with ⟨_, e⟩ | ⟨g, cap, cur, rfl, _⟩
  · omega
  · refine ⟨g, cap, ?_, ?_, fun e => hne (by rw [e]; rfl), ?_, h.base, k2.setCell (fun _ => .inl rfl) _⟩
    · simp [World.setCell, Array.getElem?_modify, hbox]
    · rw [← hlen, packX_length]; exact hown2
    · rcases hat with e | e
      · exact .inl e
      · refine .inr ?_
        have := hk.size
        simp [Value.ownBlock] at e
        omega

/-- Behind a part's putting down. -/
theorem PutMid.done {wr wc w2 w3 : World} {B p g cp : Nat} {v : Value} {cur add : List Bool} {q : Nat}
    (hbox : wc.heap[p]? = some (.cells #[.slice (some ⟨g, 0, none⟩) (cur.length / 8 + 1) cp, .int .i64 cur.length] 80 (0, 0)))
    (hown : wc.ownsRow B 5 1 (.slice (some ⟨g, 0, none⟩) (cur.length / 8 + 1) cp) (packX cur).length (bys (packX cur))) (hgp : g ≠ p) (hat : some g = v.ownBlock ∨ wr.heap.size ≤ g) (hBp : B ≤ p)
    (hk : Kept (fun k => k = p ∨ v.ownBlock = some k) wr wc) (hadd : add.length ≤ 8 - cur.length % 8) (h0 : 0 < add.length)
    (h2 : w2 = ((wc.drewN q).setCell ⟨g, cur.length / 8, none⟩ (.int .u8 ((byteAt cur (cur.length / 8) ||| numB add * 2 ^ (8 - cur.length % 8 - add.length) : Nat) : Int))))
    (h3 : w3 = w2.setCell ⟨p, 1, none⟩ (.int .i64 ((cur.length + add.length : Nat) : Int))) : BwTo wr w3 B p v (cur ++ add) := by
  have hpx := packX_length cur
  rw [hpx] at hown
  have hset := packX_set cur add hadd h0
  have o1 : (wc.drewN q).ownsRow B 5 1 (.slice (some ⟨g, 0, none⟩) (cur.length / 8 + 1) cp) (cur.length / 8 + 1) (bys (packX cur)) := hown
  have o2 := owns_set o1 (cur.length / 8) (.int .u8 ((byteAt cur (cur.length / 8) ||| numB add * 2 ^ (8 - cur.length % 8 - add.length) : Nat) : Int))
  rw [← h2] at o2
  have o3 := ((Kept.refl (fun k => k = p) w2).setCell (p := ⟨p, 1, none⟩) (fun _ => rfl) (.int .i64 ((cur.length + add.length : Nat) : Int))).owns o2 (fun k e x => hgp (by simp [Value.ownBlock] at e; omega))
  rw [← h3] at o3
  have e1 : (bys (packX cur)).set (cur.length / 8) (.int .u8 ((byteAt cur (cur.length / 8) ||| numB add * 2 ^ (8 - cur.length % 8 - add.length) : Nat) : Int)) = bys (packB (cur ++ add)) := by
    rw [← hset]; unfold bys; rw [List.map_set]
  rw [e1] at o3
  have hlen : (packB (cur ++ add)).length = cur.length / 8 + 1 := by rw [← hset, List.length_set, hpx]
  refine ⟨_, ⟨hBp, ?_, by rw [hlen]; exact o3, fun e => hgp (by simpa [Value.ownBlock] using e)⟩, ?_, ?_⟩
  · rw [h3, h2]
    have hbp : ((wc.drewN q).setCell ⟨g, cur.length / 8, none⟩ (.int .u8 ((byteAt cur (cur.length / 8) ||| numB add * 2 ^ (8 - cur.length % 8 - add.length) : Nat) : Int))).heap[p]? = some (.cells #[.slice (some ⟨g, 0, none⟩) (cur.length / 8 + 1) cp, .int .i64 cur.length] 80 (0, 0)) := by
      rw [Below.heap_setCell _ _ _ _ (by simpa using fun e => hgp e.symm)]
      exact hbox
    simp [World.setCell, Array.getElem?_modify] at hbp ⊢
    simp [hbp]
  · rcases hat with e | e
    · exact .inl e
    · exact .inr ⟨g, rfl, e⟩
  · rw [h3, h2]
    refine ((hk.drewN q).setCell ?_ _).setCell (fun _ => .inl rfl) _
    intro hlt
    rcases hat with e | e
    · exact .inr e.symm
    · simp at hlt; omega

/-- A part of a number, as the program takes it. -/
theorem part_and (x d k : Nat) (hx : x < 18446744073709551616) (hk : k ≤ 8) : bits .and .u64 ((x : Int) / 2 ^ d) (IntKind.u64.wrap (IntKind.u64.wrap (2 ^ k) - 1)) % 256 = ((x / 2 ^ d % 2 ^ k : Nat) : Int) := by
  have h1 : (2 : Int) ^ k = ((2 ^ k : Nat) : Int) := by simp
  have h2 : 2 ^ k ≤ 2 ^ 8 := Nat.pow_le_pow_right (by omega) hk
  have h3 : 0 < 2 ^ k := Nat.two_pow_pos k
  have h4 : IntKind.u64.wrap (IntKind.u64.wrap (2 ^ k) - 1) = ((2 ^ k - 1 : Nat) : Int) := by rw [h1, IntKind.wrap_u64, IntKind.wrap_u64]; omega
  have h5 : (x : Int) / 2 ^ d = ((x / 2 ^ d : Nat) : Int) := by simp
  have h6 : x / 2 ^ d ≤ x := Nat.div_le_self _ _
  rw [h4, h5]
  generalize x / 2 ^ d = X at *
  rw [u64_and _ _ (by omega) (by omega) (by omega) (by omega)]
  simp only [Int.toNat_natCast]
  rw [Nat.and_two_pow_sub_one_eq_mod]
  have h7 : X % 2 ^ k < 2 ^ k := Nat.mod_lt _ h3
  omega
end Go.Proofs.YtjpnfadmblmjbaaDoor
/- package bitio in a seat without Skip: Look, Take (B4 without its end). -/
namespace Go.Proofs.YtjpnfadmblmjbaaDoor
open Go.RowKit
attribute [local go_sem ↓] Go.wp_at_zero Go.wp_at_succ

/-- A part of a byte, as the program takes it. -/
theorem part_and8 (b e k : Nat) (hb : b < 256) (hk : k ≤ 8) : bits .and .u8 ((b : Int) / 2 ^ e) (IntKind.u8.wrap (IntKind.u8.wrap (2 ^ k) - 1)) = ((b / 2 ^ e % 2 ^ k : Nat) : Int) := by
  have h1 : (2 : Int) ^ k = ((2 ^ k : Nat) : Int) := by simp
  have h2 : 2 ^ k ≤ 2 ^ 8 := Nat.pow_le_pow_right (by omega) hk
  have h3 : 0 < 2 ^ k := Nat.two_pow_pos k
  have h4 : IntKind.u8.wrap (IntKind.u8.wrap (2 ^ k) - 1) = ((2 ^ k - 1 : Nat) : Int) := by rw [h1, IntKind.wrap_u8, IntKind.wrap_u8]; omega
  have h5 : (b : Int) / 2 ^ e = ((b / 2 ^ e : Nat) : Int) := by simp
  have h6 : b / 2 ^ e ≤ b := Nat.div_le_self _ _
  rw [h4, h5]
  generalize b / 2 ^ e = X at *
  rw [u8_and_nat _ _ (by omega) (by omega), Nat.and_two_pow_sub_one_eq_mod]

theorem part_and8' (b e k : Nat) (hb : b < 256) (hk : k ≤ 8) : bits .and .u8 ((b : Int) / 2 ^ e) ((2 ^ k - 1) % 256) = ((b / 2 ^ e % 2 ^ k : Nat) : Int) := by
  rw [← part_and8 b e k hb hk]
  congr 1
  rw [IntKind.wrap_u8, IntKind.wrap_u8]
  omega

theorem or_part (V y k : Nat) (hy : y < 2 ^ k) (hV : V * 2 ^ k + y < 18446744073709551616) :
    bits .or .u64 (IntKind.u64.wrap ((V : Int) * 2 ^ k)) (y : Int) = ((V * 2 ^ k + y : Nat) : Int) := by
  have h1 : (V : Int) * 2 ^ k = ((V * 2 ^ k : Nat) : Int) := by simp
  have h2 : IntKind.u64.wrap ((V * 2 ^ k : Nat) : Int) = ((V * 2 ^ k : Nat) : Int) := by rw [IntKind.wrap_u64]; omega
  rw [h1, h2, u64_or _ _ (by omega) (by omega) (by omega) (by omega)]
  simp only [Int.toNat_natCast]
  rw [Nat.mul_comm, Nat.two_pow_add_eq_or_of_lt hy]

def Looked (w : World) (r : Nat) (is : Bool) (e : Ending) (w' : World) : Prop := e = .returned (.tuple #[.int .u64 (r : Int), .bool is]) ∧ ∃ q, w' = w.drewN q

set_option maxHeartbeats 1000000 in
theorem blook_no (B p : Nat) (v : Value) (bs : List Bool) (t : Nat) (n : Int) (w : World) (HR : BrAt w B p v bs t) (hl : bs.length ≤ 100000000000)
    (hn : n < 0 ∨ 64 < n ∨ ((bs.length - t : Nat) : Int) < n) :
    Calls Tryd.prog 81 #[.pointer (some ⟨p, 0, none⟩), .int .i64 n] w (Looked w 0 false) := by
  by_cases h1 : n < 0
  · go_enter Tryd.func81, Tryd.ntmps81
    go_wp2
    go_ret2
    exact ⟨rfl, 0, rfl⟩
  · by_cases h2 : 64 < n
    · go_enter Tryd.func81, Tryd.ntmps81
      go_wp2
      go_ret2
      exact ⟨rfl, 0, rfl⟩
    · have h3 : ((bs.length - t : Nat) : Int) < n := by omega
      go_enter Tryd.func81, Tryd.ntmps81
      go_wp2_with (go_at_call 32; refine (bleft_any B p v bs t _ HR hl).mono ?_; rintro e w' ⟨rfl, q, rfl⟩)
      go_ret2
      exact ⟨rfl, _, rfl⟩

set_option maxHeartbeats 2000000 in
set_option maxRecDepth 100000 in
theorem blook_yes (B p : Nat) (v : Value) (bs : List Bool) (t n : Nat) (w : World) (HR : BrAt w B p v bs t) (hl : bs.length ≤ 100000000000) (hn : n ≤ 64) (ht : t + n ≤ bs.length) :
    Calls Tryd.prog 81 #[.pointer (some ⟨p, 0, none⟩), .int .i64 n] w (Looked w (numB ((bs.drop t).take n)) true) := by
  have h1 : ¬ (n : Int) < 0 := by omega
  have h2 : ¬ 64 < (n : Int) := by omega
  have h3 : ¬ ((bs.length - t : Nat) : Int) < (n : Int) := by omega
  have hc0 := HR.c0
  have hc2 := HR.c2
  obtain ⟨L, hL⟩ : ∃ L, L = bs.length - t := ⟨_, rfl⟩
  have HLE : Calls Tryd.prog 32 #[.pointer (some ⟨p, 0, none⟩)] w fun e w' => Drew w w' (e = .returned (.int .i64 (L : Int))) := by rw [hL]; exact bleft_any B p v bs t w HR hl
  rw [← hL] at h3
  have h3b : decide (L < n) = false := decide_eq_false (by omega)
  have HLL := Lib.hid hL
  have HLE' := Lib.hid HLE
  clear hL HLE
  have hsl : ∃ ao cp, v = .slice ao (packB bs).length cp := ownsRow_slice HR.owns
  obtain ⟨ao, cp, rfl⟩ := hsl
  go_enter Tryd.func81, Tryd.ntmps81
  go_wp2_with (go_at_call 32; refine HLE'.out.mono ?_; rintro e w' ⟨rfl, q, rfl⟩)
  go_quiet (fail)
  go_wp2
  go_loopg [1, 6, 7] n (fun g s1 s6 s7 wr => ∃ m : Nat, m ≤ n ∧ g = m ∧ s1 = .int .i64 m ∧ s6 = .int .u64 ((numB ((bs.drop t).take (n - m)) : Nat) : Int) ∧ s7 = .int .i64 ((t + (n - m) : Nat) : Int) ∧ ∃ q, wr = w.drewN q)
  case atStart => exact ⟨n, Nat.le_refl _, rfl, rfl, by simp, by simp, _, World.drewN_drewN ..⟩
  case round =>
    obtain ⟨m, hm, rfl, rfl, rfl, rfl, qr, rfl⟩ := hrel
    by_cases hm0 : gk = 0
    · subst hm0
      go_wp2
      go_ret2
      exact ⟨rfl, _, rfl⟩
    · have hm1 : 0 < (gk : Int) := by omega
      obtain ⟨a, ha⟩ : ∃ a, a = t + (n - gk) := ⟨_, rfl⟩
      obtain ⟨V, hV⟩ : ∃ V, V = numB ((bs.drop t).take (n - gk)) := ⟨_, rfl⟩
      have hVl : V < 2 ^ (n - gk) := by
        rw [hV]
        have := numB_lt ((bs.drop t).take (n - gk))
        rwa [List.length_take, List.length_drop, Nat.min_eq_left (by omega)] at this
      rw [← ha, ← hV]
      have haL : a + gk ≤ bs.length := by omega
      obtain ⟨f, hf⟩ : ∃ f, f = 8 - a % 8 := ⟨_, rfl⟩
      have r2 : 8 - (a : Int) % 8 = (f : Int) := by omega
      have hfr : 1 ≤ f ∧ f ≤ 8 := by omega
      obtain ⟨k, hk⟩ : ∃ k, k = min f gk := ⟨_, rfl⟩
      have hk1 : 1 ≤ k ∧ k ≤ f ∧ k ≤ gk := by omega
      have hkc : k = f ∧ f ≤ gk ∨ k = gk ∧ gk < f := by omega
      obtain ⟨q, hq⟩ : ∃ q, q = a / 8 := ⟨_, rfl⟩
      have r5 : (a : Int) / 8 = (q : Int) := by omega
      have hqL : q < (packB bs).length := by rw [packB_length]; omega
      obtain ⟨b, hb⟩ : ∃ b, b = byteAt bs q := ⟨_, rfl⟩
      have hb2 : b < 256 := by rw [hb]; exact byteAt_lt _ _
      have hg : ∃ g, ao = some ⟨g, 0, none⟩ := by
        rcases HR.owns.2 with ⟨e, h0⟩ | ⟨g, cap, cur, e, _⟩
        · rw [h0] at hqL; omega
        · injection e with e1 e2 e3; exact ⟨g, e1⟩
      obtain ⟨g, rfl⟩ := hg
      have hcell : w.cell? ⟨g, q, none⟩ = some (.int .u8 (b : Int)) := by
        rw [HR.owns.cellAt q (by simpa using hqL), bys_get hqL, packB_getD, hb]
      obtain ⟨d, hd⟩ : ∃ d, d = gk - k := ⟨_, rfl⟩
      have r7 : IntKind.i64.wrap ((gk : Int) - (k : Int)) = (d : Int) := by rw [IntWalk.i64_in _ ⟨by omega, by omega⟩]; omega
      have r8 : (gk : Int) - (k : Int) = (d : Int) := by omega
      obtain ⟨e, he⟩ : ∃ e, e = f - k := ⟨_, rfl⟩
      have r9 : IntKind.i64.wrap ((f : Int) - (k : Int)) = (e : Int) := by rw [IntWalk.i64_in _ ⟨by omega, by omega⟩]; omega
      have r10 : (f : Int) - (k : Int) = (e : Int) := by omega
      obtain ⟨s, hs⟩ : ∃ s, s = a + k := ⟨_, rfl⟩
      have ck : (a : Int) + (k : Int) = (s : Int) := by omega
      have cw : IntKind.i64.wrap ((a : Int) + (k : Int)) = (s : Int) := by rw [ck]; exact IntWalk.i64_in _ ⟨by omega, by omega⟩
      have sw : IntKind.i64.wrap (s : Int) = (s : Int) := IntWalk.i64_in _ ⟨by omega, by omega⟩
      obtain ⟨y, hy⟩ : ∃ y, y = b / 2 ^ e % 2 ^ k := ⟨_, rfl⟩
      have hy2 : y < 2 ^ k := by rw [hy]; exact Nat.mod_lt _ (Nat.two_pow_pos k)
      have r11 : bits .and .u8 ((b : Int) / 2 ^ e) (IntKind.u8.wrap (IntKind.u8.wrap (2 ^ k) - 1)) = (y : Int) := by rw [hy]; exact part_and8 b e k hb2 (by omega)
      have r11' : bits .and .u8 ((b : Int) / 2 ^ e) ((2 ^ k - 1) % 256) = (y : Int) := by rw [hy]; exact part_and8' b e k hb2 (by omega)
      have yw2 : IntKind.u64.wrap (y : Int) = (y : Int) := by
        have h6 : 2 ^ k ≤ 2 ^ 8 := Nat.pow_le_pow_right (by omega) (by omega)
        rw [IntKind.wrap_u64]; omega
      have hVX : V * 2 ^ k + y < 18446744073709551616 := by
        have h4 : V * 2 ^ k + y < (V + 1) * 2 ^ k := by rw [Nat.add_mul]; omega
        have h5 : (V + 1) * 2 ^ k ≤ 2 ^ (n - gk) * 2 ^ k := Nat.mul_le_mul_right _ hVl
        rw [← Nat.pow_add] at h5
        have h6 : 2 ^ (n - gk + k) ≤ 2 ^ 64 := Nat.pow_le_pow_right (by omega) (by omega)
        have h7 : (2 : Nat) ^ 64 = 18446744073709551616 := by decide
        omega
      have r12 := or_part V y k hy2 hVX
      obtain ⟨X, hX⟩ : ∃ X, X = V * 2 ^ k + y := ⟨_, rfl⟩
      rw [← hX] at r12
      have hyn : y = numB ((bs.drop a).take k) := by
        rw [hy, hb, hq, he]
        have e1 : f - k = 8 - a % 8 - k := by rw [hf]
        rw [e1]
        exact byte_part bs a k (by omega) (by omega)
      have hXn : X = numB ((bs.drop t).take (n - d)) := by
        have e1 : n - d = (n - gk) + k := by omega
        have hl2 : ((bs.drop a).take k).length = k := by rw [List.length_take, List.length_drop]; omega
        rw [e1, List.take_add, numB_append, List.drop_drop, ← ha, hl2, hX, hV, hyn]
      have hsn : s = t + (n - d) := by omega
      have yw : (y : Int) ≤ 255 := by have h6 : 2 ^ k ≤ 2 ^ 8 := Nat.pow_le_pow_right (by omega) (by omega); omega
      have HH := Lib.hid (And.intro hXn hsn)
      have HKC := Lib.hid hkc
      have qi : (q : Int) < ((packB bs).length : Int) := by omega
      have q0 : (0 : Int) ≤ (q : Int) := by omega
      have qw : IntKind.i64.wrap (q : Int) = (q : Int) := IntWalk.i64_in _ ⟨by omega, by omega⟩
      have a0 : (0 : Int) ≤ (a : Int) := by omega
      have hdg : d < gk := by omega
      have HDG := Lib.hid hdg
      have HDM : Hid (d ≤ n) := Lib.hid (by omega)
      have HKF := Lib.hid hk1
      clear hf hk hq hb hd he hs hy hX hXn hsn hyn hV ha hkc hVX hVl hy2 hb2 hqL haL hdg hk1 hfr
      go_upto_region 6 with fail
      go_cut [8, 9] (fun s8 s9 wd => s8 = .int .i64 f ∧ s9 = .int .i64 k ∧ w.drewN qr = wd)
      case first =>
        rcases HKC.out with ⟨rfl, hc⟩ | ⟨rfl, hc⟩
        · have : (k : Int) ≤ (gk : Int) := by omega
          go_wp2
          go_meet
          case rel => exact ⟨rfl, rfl, rfl⟩
        · have : (k : Int) < (f : Int) := by omega
          go_wp2
          go_meet
          case rel => exact ⟨rfl, rfl, rfl⟩
      case rest =>
        obtain ⟨rfl, rfl, rfl⟩ := hcut
        go_wp2
        go_quiet (fail)
        go_wp2
        go_roundg d
        case measure => exact HDG.out
        case rel => exact ⟨d, HDM.out, rfl, rfl, by rw [HH.out.1], by rw [HH.out.2], _, rfl⟩

/-- What Take leaves. -/
def Taken (w : World) (B p : Nat) (v : Value) (bs : List Bool) (t r : Nat) (is : Bool) (e : Ending) (w' : World) : Prop :=
  e = .returned (.tuple #[.int .u64 (r : Int), .bool is]) ∧ BrAt w' B p v bs t ∧ Kept (fun k => k = p) w w'

theorem BrAt.set {w w2 : World} {B p : Nat} {v : Value} {bs : List Bool} {t t2 q : Nat} (h : BrAt w B p v bs t) (ht : t2 ≤ bs.length) (h2 : w2 = (w.drewN q).setCell ⟨p, 2, none⟩ (.int .i64 (t2 : Int))) :
    BrAt w2 B p v bs t2 ∧ Kept (fun k => k = p) w w2 := by
  subst h2
  refine ⟨⟨h.base, ?_, ?_, h.apart, ht⟩, ((Kept.refl (fun k => k = p) w).drewN q).setCell (fun _ => rfl) _⟩
  · have e : w.heap[p]? = some (.cells #[v, .int .i64 bs.length, .int .i64 t] 88 (0, 0)) := h.box
    simp [World.setCell, Array.getElem?_modify, e]
  · have o : (w.drewN q).ownsRow B 5 1 v (packB bs).length (bys (packB bs)) := h.owns
    exact ((Kept.refl (fun k => k = p) (w.drewN q)).setCell (p := ⟨p, 2, none⟩) (fun _ => rfl) _).owns o (fun k e x => h.apart (by rw [e, x]))

set_option maxHeartbeats 1000000 in
theorem btake_no (B p : Nat) (v : Value) (bs : List Bool) (t : Nat) (n : Int) (w : World) (HR : BrAt w B p v bs t) (hl : bs.length ≤ 100000000000)
    (hn : n < 0 ∨ 64 < n ∨ ((bs.length - t : Nat) : Int) < n) :
    Calls Tryd.prog 57 #[.pointer (some ⟨p, 0, none⟩), .int .i64 n] w (Taken w B p v bs t 0 false) := by
  go_enter Tryd.func57, Tryd.ntmps57
  go_wp2_with fail
  refine (blook_no B p v bs t n w HR hl hn).mono ?_
  rintro e w' ⟨rfl, q, rfl⟩
  go_wp2
  go_ret2
  exact ⟨rfl, HR.drewN q, (Kept.refl _ _).drewN q⟩

set_option maxHeartbeats 1000000 in
theorem btake_yes (B p : Nat) (v : Value) (bs : List Bool) (t n : Nat) (w : World) (HR : BrAt w B p v bs t) (hl : bs.length ≤ 100000000000) (hn : n ≤ 64) (ht : t + n ≤ bs.length) :
    Calls Tryd.prog 57 #[.pointer (some ⟨p, 0, none⟩), .int .i64 n] w (Taken w B p v bs (t + n) (numB ((bs.drop t).take n)) true) := by
  have hc2 := HR.c2
  have hf2 := HR.free 2
  obtain ⟨R, hR⟩ : ∃ R, R = numB ((bs.drop t).take n) := ⟨_, rfl⟩
  have HL := blook_yes B p v bs t n w HR hl hn ht
  rw [← hR] at HL ⊢
  have HL' := Lib.hid HL
  obtain ⟨s, hs⟩ : ∃ s, s = t + n := ⟨_, rfl⟩
  rw [← hs]
  have ck : (t : Int) + (n : Int) = (s : Int) := by omega
  have cw : IntKind.i64.wrap ((t : Int) + (n : Int)) = (s : Int) := by rw [ck]; exact IntWalk.i64_in _ ⟨by omega, by omega⟩
  have sw : IntKind.i64.wrap (s : Int) = (s : Int) := IntWalk.i64_in _ ⟨by omega, by omega⟩
  have fin := Lib.hid fun q => HR.set (t2 := s) (q := q) (by omega) rfl
  clear HL hR hs
  go_enter Tryd.func57, Tryd.ntmps57
  go_wp2_with fail
  refine HL'.out.mono ?_
  rintro e w' ⟨rfl, q, rfl⟩
  go_wp2
  go_ret2
  exact ⟨rfl, (fin.out q).1, (fin.out q).2⟩
end Go.Proofs.YtjpnfadmblmjbaaDoor
/- package bitio: Put, of a number that has its bits. -/
namespace Go.Proofs.YtjpnfadmblmjbaaDoor
open Go.RowKit
attribute [local go_sem ↓] Go.wp_at_zero Go.wp_at_succ

set_option maxHeartbeats 2000000 in
set_option maxRecDepth 100000 in
theorem bput_yes (B p : Nat) (v : Value) (bs : List Bool) (x n : Nat) (w : World) (HW : BwAt w B p v bs) (hB : B ≤ w.heap.size) (hn : n ≤ 64) (hx : x < 2 ^ n) (hl : bs.length ≤ 1000000000) :
    Calls Tryd.prog 48 #[.pointer (some ⟨p, 0, none⟩), .int .u64 x, .int .i64 n] w fun e w' => e = .returned (.bool true) ∧ BwTo w w' B p v (bs ++ bitsN x n) := by
  obtain ⟨i0, hi, hz0, hz1, hz2⟩ := info_parts Tryd.infoU8
  have h1 : ¬ (n : Int) < 0 := by omega
  have h2 : ¬ 64 < (n : Int) := by omega
  have hq : n = 64 ∨ ((n : Int) < 64 ∧ ((x : Int) / 2 ^ n != 0) = false) := by
    by_cases h : n = 64
    · exact .inl h
    · refine .inr ⟨by omega, ?_⟩
      have h5 : ((x : Int) / 2 ^ n) = ((x / 2 ^ n : Nat) : Int) := by simp
      rw [h5, Nat.div_eq_of_lt hx]; rfl
  have hst : BwTo w w B p v (putN bs x n n) := by rw [putN_all]; exact HW.to
  have hx64 : x < 18446744073709551616 := Nat.lt_of_lt_of_le hx (Nat.pow_le_pow_right (by omega) hn)
  have HX := Lib.hid hx
  clear HW hx
  rcases hq with hq | ⟨hq1, hq2⟩
  all_goals
    try have h3 : ¬ (n : Int) < 64 := by omega
    try clear hq
    go_enter Tryd.func48, Tryd.ntmps48
    go_wp2
    go_loopg [2] n (fun g i wr => ∃ m : Nat, m ≤ n ∧ g = m ∧ i = .int .i64 m ∧ BwTo w wr B p v (putN bs x n m))
    case atStart => exact ⟨n, Nat.le_refl _, rfl, rfl, hst⟩
    case round =>
      obtain ⟨m, hm, rfl, rfl, hto⟩ := hrel
      by_cases hm0 : gk = 0
      · subst hm0
        clear hst
        go_wp2
        go_ret
        exact ⟨rfl, by rw [← putN_zero]; exact hto⟩
      · obtain ⟨v1, HW1, hsz1, back⟩ := hto.part
        clear hto hst
        have hm1 : 0 < (gk : Int) := by omega
        have hc0 := HW1.c0
        have hc1 := HW1.c1
        have hf0 := HW1.free 0
        have hf1 := HW1.free 1
        obtain ⟨cur, hcur⟩ : ∃ cur, cur = putN bs x n gk := ⟨_, rfl⟩
        rw [← hcur] at HW1 hc1
        have HCur := Lib.hid hcur
        have hcl : cur.length = bs.length + (n - gk) := by rw [hcur, putN_length]
        clear hcur
        obtain ⟨c, hc⟩ : ∃ c, c = cur.length := ⟨_, rfl⟩
        rw [← hc] at hc1 hcl
        obtain ⟨f, hf⟩ : ∃ f, f = 8 - c % 8 := ⟨_, rfl⟩
        have r2 : 8 - (c : Int) % 8 = (f : Int) := by omega
        have hfr : 1 ≤ f ∧ f ≤ 8 := by omega
        have HL1 := HW1.owns
        obtain ⟨ao1, cp1, rfl⟩ := ownsRow_slice HW1.owns
        have HC := Lib.hid hc
        have HF := Lib.hid hf
        have HCL := Lib.hid hcl
        clear hf hcl hc
        have hB1 : B ≤ wr.heap.size := Nat.le_trans hB hsz1
        go_upto_if 35 with fail
        go_cut [7] (fun s7 wc => s7 = .int .i64 f ∧ PutMid wr wc B p (.slice ao1 (packB cur).length cp1) cur)
        case first =>
          by_cases hf8 : f = 8
          · have r3 : ((f : Int) == 8) = true := by simp; omega
            have hlen : (packB cur).length ≤ 1000000100 := by have := HC.out; have := HCL.out; rw [packB_length]; omega
            have hlen2 : (packB cur).length + 1 = cur.length / 8 + 1 := by have := HC.out; have := HF.out; rw [packB_length]; omega
            have HL2 := Lib.hid hlen2
            have hc8 : cur.length % 8 = 0 := by have := HC.out; have := HF.out; omega
            have HC8 := Lib.hid hc8
            clear hlen2 hc8 hf8
            go_wp2_with (at_builtin; refine wpList_append_src _ rfl (.tmp 40) (.tmp 41) 33 33 rfl B 5 i0 (.int .u8 0) 1 1 Tryd.underlying33 hi hz0 hz1 hz2 rfl (.slice ao1 (packB cur).length cp1) (packB cur).length (bys (packB cur)) rfl (HL1.alloc _) (.slice (some ⟨wr.heap.size, 0, none⟩) 1 1) 1 [.int .u8 0] rfl (src_one wr Tryd.underlying33 (.int .u8 0) rfl) ?c1 ?c2 ?c3 ?_)
            case c1 => unfold maxLen; omega
            case c2 => omega
            case c3 => simp; omega
            intro v2 w2 hown hg _ hat
            have hk1 : Kept (fun _ => False) wr (wr.alloc (.cells #[.int .u8 0] 5)) := (Kept.refl _ _).alloc _
            have fin := Lib.hid (HW1.mid_push HC8.out hk1 hown HL2.out hg (by simpa using hat))
            have hc2 : w2.cell? ⟨p, 0, none⟩ = some (.slice ao1 (packB cur).length cp1) := by
              rw [hg.cell_far ⟨p, 0, none⟩ (by simp; have := HW1.lt; omega) (fun e => HW1.apart e.symm)]
              exact hk1.cell hc0 (fun x => x)
            have hf2 : w2.frozen? ⟨p, 0, none⟩ = false := by
              rw [hg.frozen_far ⟨p, 0, none⟩ (by simp; have := HW1.lt; omega) (fun e => HW1.apart e.symm)]
              simp [World.frozen?, hk1.same HW1.box (fun x => x)]
            obtain ⟨a', c', rfl⟩ := ownsRow_slice hown
            clear hown hg hat
            go_wp2
            go_meet
            case rel => exact ⟨rfl, fin.out⟩
          · have r3 : ((f : Int) == 8) = false := by simp; omega
            have hmid := Lib.hid (HW1.mid (by have := HC.out; have := HF.out; omega))
            go_wp2
            go_meet
            case rel => exact ⟨rfl, hmid.out⟩
        case rest =>
          obtain ⟨rfl, g, cp, hbox, hown, hgp, hat, hBp, hkk⟩ := hcut
          have k0 : wc.cell? ⟨p, 0, none⟩ = some (.slice (some ⟨g, 0, none⟩) (cur.length / 8 + 1) cp) := by rw [cell_of_row wc p 0 _ _ _ hbox]; rfl
          have k1 : wc.cell? ⟨p, 1, none⟩ = some (.int .i64 c) := by rw [cell_of_row wc p 1 _ _ _ hbox, HC.out]; rfl
          obtain ⟨k, hk⟩ : ∃ k, k = min f gk := ⟨_, rfl⟩
          have hk1 : 1 ≤ k ∧ k ≤ f ∧ k ≤ gk := by omega
          have HK := Lib.hid hk
          obtain ⟨q, hq⟩ : ∃ q, q = c / 8 := ⟨_, rfl⟩
          have r5 : (c : Int) / 8 = (q : Int) := by omega
          have r6 : cur.length / 8 = q := by rw [hq, HC.out]
          rw [r6] at k0
          have HQ8 := Lib.hid hq
          have H6 := Lib.hid r6
          have HN := Lib.hid hown
          have HBX := Lib.hid hbox
          clear hq hk r6 hown hbox
          go_upto_region 7 with fail
          go_cut [7, 8] (fun s7 s8 wd => s7 = .int .i64 f ∧ s8 = .int .i64 k ∧ wc = wd)
          case first =>
            have hc : k = f ∧ f ≤ gk ∨ k = gk ∧ gk < f := by have := HK.out; omega
            rcases hc with ⟨rfl, hc⟩ | ⟨rfl, hc⟩
            · have : (k : Int) ≤ (gk : Int) := by omega
              go_wp2
              go_meet
              case rel => exact ⟨rfl, rfl, rfl⟩
            · have : (k : Int) < (f : Int) := by omega
              go_wp2
              go_meet
              case rel => exact ⟨rfl, rfl, rfl⟩
          case rest =>
            obtain ⟨rfl, rfl, rfl⟩ := hcut
            obtain ⟨d, hd⟩ : ∃ d, d = gk - k := ⟨_, rfl⟩
            have r7 : IntKind.i64.wrap ((gk : Int) - (k : Int)) = (d : Int) := by rw [IntWalk.i64_in _ ⟨by omega, by omega⟩]; omega
            have r8 : (gk : Int) - (k : Int) = (d : Int) := by omega
            obtain ⟨e, he⟩ : ∃ e, e = f - k := ⟨_, rfl⟩
            have r9 : IntKind.i64.wrap ((f : Int) - (k : Int)) = (e : Int) := by rw [IntWalk.i64_in _ ⟨by omega, by omega⟩]; omega
            have r10 : (f : Int) - (k : Int) = (e : Int) := by omega
            obtain ⟨y, hy⟩ : ∃ y, y = x / 2 ^ d % 2 ^ k := ⟨_, rfl⟩
            have hy2 : y < 2 ^ k := by rw [hy]; exact Nat.mod_lt _ (Nat.two_pow_pos k)
            have r11 : bits .and .u64 ((x : Int) / 2 ^ d) (IntKind.u64.wrap (IntKind.u64.wrap (2 ^ k) - 1)) % 256 = (y : Int) := by rw [hy]; exact part_and x d k hx64 (by omega)
            have hye : y * 2 ^ e < 256 := by
              have h1 : y * 2 ^ e < 2 ^ k * 2 ^ e := Nat.mul_lt_mul_of_pos_right hy2 (Nat.two_pow_pos e)
              rw [← Nat.pow_add] at h1
              have h2 : 2 ^ (k + e) ≤ 2 ^ 8 := Nat.pow_le_pow_right (by omega) (by omega)
              omega
            have r12 : IntKind.u8.wrap ((y : Int) * 2 ^ e) = ((y * 2 ^ e : Nat) : Int) := by
              have h1 : (y : Int) * 2 ^ e = ((y * 2 ^ e : Nat) : Int) := by simp
              rw [h1, IntKind.wrap_u8]; omega
            obtain ⟨z, hz⟩ : ∃ z, z = y * 2 ^ e := ⟨_, rfl⟩
            rw [← hz] at r12 hye
            obtain ⟨b, hb⟩ : ∃ b, b = byteAt cur q := ⟨_, rfl⟩
            have hb2 : b < 256 := by rw [hb]; exact byteAt_lt _ _
            obtain ⟨b', hb'⟩ : ∃ b', b' = b ||| z := ⟨_, rfl⟩
            have r13 : bits .or .u8 (b : Int) (z : Int) = (b' : Int) := by rw [hb']; exact u8_or_nat b z (by omega) (by omega)
            have hcell : wc.cell? ⟨g, q, none⟩ = some (.int .u8 (b : Int)) := by
              have ho := HN.out
              rw [packX_length] at ho
              rw [ho.cellAt q (by have := H6.out; omega), bys_get (by rw [packX_length]; have := H6.out; omega), ← H6.out, packX_getD, H6.out, hb]
            have hfree : wc.frozen? ⟨g, q, none⟩ = false := by
              obtain ⟨cur', hcur'⟩ := ownsRow_block HN.out (k := g) rfl
              simp [World.frozen?, hcur']
            have hfp : wc.frozen? ⟨p, 1, none⟩ = false := by simp [World.frozen?, HBX.out]
            have HD := Lib.hid hd
            have HE := Lib.hid he
            have HY := Lib.hid hy
            have HZ := Lib.hid hz
            have HB := Lib.hid hb
            have HB' := Lib.hid hb'
            clear hd he hy hz hb hb' hy2 hye hb2
            have q0 : (0 : Int) ≤ (q : Int) := by omega
            have qw : IntKind.i64.wrap (q : Int) = (q : Int) := IntWalk.i64_in _ ⟨by omega, by have := HCL.out; have := HQ8.out; omega⟩
            obtain ⟨s, hs⟩ : ∃ s, s = c + k := ⟨_, rfl⟩
            have ck : (c : Int) + (k : Int) = (s : Int) := by omega
            have cw : IntKind.i64.wrap ((c : Int) + (k : Int)) = (s : Int) := by have := HCL.out; rw [IntWalk.i64_in _ ⟨by omega, by omega⟩]; exact ck
            have sw : IntKind.i64.wrap (s : Int) = (s : Int) := IntWalk.i64_in _ ⟨by omega, by have := HCL.out; omega⟩
            have HS := Lib.hid hs
            clear hs
            go_wp2
            go_quiet (fail)
            go_wp2
            have kS : ∀ (j : Nat) (u : Value), ((wc.drewN j).setCell ⟨g, q, none⟩ u).cell? ⟨p, 1, none⟩ = some (.int .i64 c) := fun j u => by
              rw [World.cell?_setCell_other _ _ _ _ (fun e => hgp (by cases e; rfl))]; exact k1
            have kF : ∀ (j : Nat) (u : Value), ((wc.drewN j).setCell ⟨g, q, none⟩ u).frozen? ⟨p, 1, none⟩ = false := fun j u => by
              have h1 : ((wc.drewN j).setCell ⟨g, q, none⟩ u).heap[p]? = wc.heap[p]? := Below.heap_setCell _ _ _ _ (fun e => hgp e.symm)
              simp only [World.frozen?, h1]
              exact hfp
            have fin : ∀ j : Nat, BwTo w (((wc.drewN j).setCell ⟨g, q, none⟩ (.int .u8 (b' : Int))).setCell ⟨p, 1, none⟩ (.int .i64 (s : Int))) B p v (putN bs x n (gk - k)) := fun j => by
              have hadd : (bitsN (x / 2 ^ d) k).length = k := bitsN_length _ _
              have hnum : numB (bitsN (x / 2 ^ d) k) = y := by rw [← bitsN_mod, numB_bitsN _ _ (Nat.mod_lt _ (Nat.two_pow_pos k)), HY.out]
              have hst : putN bs x n (gk - k) = cur ++ bitsN (x / 2 ^ d) k := by rw [putN_step bs x n gk k hm hk1.2.2, ← HCur.out, ← HD.out]
              have := HC.out
              have := HF.out
              rw [hst]
              refine back.out _ _ (PutMid.done (q := j) (w2 := (wc.drewN j).setCell ⟨g, q, none⟩ (.int .u8 (b' : Int))) HBX.out HN.out hgp hat hBp hkk ?_ ?_ ?_ ?_)
              · rw [hadd]; omega
              · rw [hadd]; omega
              · rw [hadd, hnum, H6.out, HB'.out, HZ.out, HB.out]
                have e1 : 8 - cur.length % 8 - k = e := by rw [HE.out]; omega
                rw [e1]
              · rw [hadd, HS.out, HC.out]
            have FIN := Lib.hid fin
            clear fin
            go_region
            go_wp2
            go_roundg (gk - k)
            case measure => omega
            case rel => exact ⟨d, by have := HD.out; omega, by rw [HD.out], rfl, by rw [HD.out]; exact FIN.out _⟩
end Go.Proofs.YtjpnfadmblmjbaaDoor
