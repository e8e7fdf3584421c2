/- Texts put together: X5, C1, F1, F2, F3, F4. -/
import Derived.Test.YtficodklidaheaaDoorZz2
import Derived.Test.YtficodklidaheaaDoorZz4
import Derived.Test.YtficodklidaheaaDoorZz1
import Derived.Test.YtficodklidaheaaDoorRows
import Derived.Lib.Hide
import Derived.Deep.DrawnRows
import Derived.Outline
import Derived.Deep.QuietTactic
import Derived.BigQuiet
import Derived.Laws.BytesArg
import Derived.Deep.RegionHeld
/- Layer 25: rows of spans; Left. -/
namespace Go.Proofs.YtficodklidaheaaDoor
open Go.RowKit
attribute [local go_sem ↓] Go.wp_at_zero Go.wp_at_succ

def cellsSp (x : Int × Int) : List Value := [.int .i64 x.1, .int .i64 x.2]
theorem cfSp : Cf cellsSp 2 := ⟨fun _ => rfl, fun x u hu => by
  unfold cellsSp at hu
  simp only [List.mem_cons, List.not_mem_nil, or_false] at hu
  rcases hu with rfl | rfl <;> rfl⟩
/-- How many of them end behind a place. -/
def leftN (ack : Int) (L : List (Int × Int)) : Nat := (L.filter fun x => decide (ack < x.2)).length
theorem leftN_succ {ack : Int} {L : List (Int × Int)} {i : Nat} {x : Int × Int} (h : L[i]? = some x) : leftN ack (L.take (i + 1)) = leftN ack (L.take i) + (if ack < x.2 then 1 else 0) := by
  unfold leftN
  rw [List.take_add_one, h, List.filter_append, List.length_append]
  by_cases e : ack < x.2
  · simp [e]
  · simp [e]
theorem leftN_le (ack : Int) (L : List (Int × Int)) : leftN ack L ≤ L.length := List.length_filter_le _ _
set_option maxRecDepth 100000 in
set_option maxHeartbeats 4000000 in
theorem shLeft_any (ao : Option Addr) (c : Nat) (L : List (Int × Int)) (n : Nat) (hn : n = L.length) (ack : Int) (w : World) (hat : GAt cellsSp 2 w ao L) (hl : n ≤ 9223372036854775807) :
    Calls Tryd.prog 56 #[.slice ao n c, .int .i64 ack] w fun e w' => e = .returned (.int .i64 (leftN ack L : Nat)) ∧ Kept (fun _ => False) w w' := by
  have HA := Lib.hid (And.intro hat hn)
  have HT : Hid (L.take n = L) := Lib.hid (by rw [hn, List.take_length])
  have HLE := Lib.hid (fun i => Nat.le_trans (leftN_le ack (L.take i)) (by rw [List.length_take]; omega : (L.take i).length ≤ i))
  clear hat hn
  go_enter Tryd.func56, Tryd.ntmps56
  go_wp2
  go_loopg [5, 10] n (fun g s5 s10 wr => ∃ i : Nat, i ≤ n ∧ g = n - i ∧ s10 = .int .i64 (i : Int) ∧ s5 = .int .i64 ((leftN ack (L.take i) : Nat) : Int) ∧ Kept (fun _ => False) w wr)
  case atStart => exact ⟨0, Nat.zero_le _, rfl, rfl, rfl, Kept.refl _ _⟩
  case round =>
    obtain ⟨i, hin, rfl, rfl, rfl, hk⟩ := hrel
    have hle := HLE.out i
    obtain ⟨k, hkk⟩ : ∃ k, k = leftN ack (L.take i) := ⟨_, rfl⟩
    rw [← hkk] at hle ⊢
    have HKK := Lib.hid hkk
    by_cases hd : i < n
    · have hdi : (i : Int) < (n : Int) := by omega
      have HD := Lib.hid hd
      have wi : IntKind.i64.wrap ((i : Int) + 1) = ((i + 1 : Nat) : Int) := by rw [IntWalk.i64_in _ ⟨by omega, by omega⟩]; omega
      obtain ⟨x, hx⟩ : ∃ x, L[i]? = some x := ⟨_, List.getElem?_eq_getElem (by rw [← HA.out.2]; exact hd)⟩
      obtain ⟨gg, oo, hga, hgc⟩ := (HA.out.1.kept hk) (by rw [← HA.out.2]; omega)
      subst hga
      have g0 := hgc i x hx 0 (.int .i64 x.1) rfl
      have g1 := hgc i x hx 1 (.int .i64 x.2) rfl
      rw [Nat.add_zero] at g0
      have HS := Lib.hid (leftN_succ (ack := ack) hx)
      obtain ⟨x1, x2⟩ := x
      dsimp only at g0 g1 HS
      obtain ⟨q, hq⟩ : ∃ q, q = wr.heap.size := ⟨_, rfl⟩
      obtain ⟨wa, hwa⟩ : ∃ wa, wa = wr.alloc (.cells #[.int .i64 x1, .int .i64 x2] 98) := ⟨_, rfl⟩
      have ka : Kept (fun _ => False) wr wa := by rw [hwa]; exact (Kept.refl _ _).alloc _
      have d1 : wa.cell? ⟨q, 1, none⟩ = some (.int .i64 x2) := by rw [hwa, hq, cell_of_row _ _ 1 _ _ _ (heap_alloc_new wr _)]; rfl
      have HK := Lib.hid (hk.trans ka)
      have HWA := Lib.hid (And.intro hwa hq)
      clear hgc hx hk hkk hd hq hwa ka hin
      go_upto_region 5 with fail
      rw [← HWA.out.1, ← HWA.out.2]
      by_cases he : ack < x2
      · have q1 : decide (ack < x2) = true := decide_eq_true he
        have wk : IntKind.i64.wrap ((k : Int) + 1) = ((k + 1 : Nat) : Int) := by rw [IntWalk.i64_in _ ⟨by omega, by omega⟩]; omega
        have hs : ((k : Int) + 1) = ((leftN ack (L.take (i + 1)) : Nat) : Int) := by rw [HS.out, if_pos he, ← HKK.out]; omega
        have HS2 := Lib.hid hs
        clear he hs
        go_wp2
        go_roundg (n - (i + 1))
        case measure => have := HD.out; omega
        case rel => exact ⟨i + 1, HD.out, rfl, rfl, by rw [HS2.out], HK.out⟩
      · have q1 : decide (ack < x2) = false := decide_eq_false he
        have hs : leftN ack (L.take (i + 1)) = k := by rw [HS.out, if_neg he, ← HKK.out, Nat.add_zero]
        have HS2 := Lib.hid hs
        clear he hs
        go_wp2
        go_roundg (n - (i + 1))
        case measure => have := HD.out; omega
        case rel => exact ⟨i + 1, HD.out, rfl, rfl, by rw [HS2.out], HK.out⟩
    · have hdi : ¬ (i : Int) < (n : Int) := by omega
      have hdi' : decide (i < n) = false := decide_eq_false hd
      obtain rfl : i = n := by omega
      have HK := Lib.hid hk
      have HX : Hid (k = leftN ack L) := Lib.hid (by rw [HKK.out, HT.out])
      clear hk hkk hd
      go_wp2
      go_ret
      exact ⟨by rw [HX.out]; rfl, HK.out⟩
end Go.Proofs.YtficodklidaheaaDoor
/- Plain facts on check sums. -/
namespace Go.Proofs.YtficodklidaheaaDoor
open Go.RowKit
def poly : Nat := 2197175160
/-- One step of a sum. -/
def stepN (n : Nat) : Nat := if n % 2 = 1 then n / 2 ^^^ poly else n / 2
/-- Some steps. -/
def stepsN : Nat → Nat → Nat
  | 0, n => n
  | k + 1, n => stepsN k (stepN n)
/-- A sum, not turned, behind some bytes. -/
def moreN (s : Nat) (l : List Nat) : Nat := l.foldl (fun s b => stepsN 8 (s ^^^ b)) s

theorem xor_div_two (a b : Nat) : (a ^^^ b) / 2 = a / 2 ^^^ b / 2 := by
  have := Nat.shiftRight_xor_distrib (a := a) (b := b) (i := 1)
  simpa [Nat.shiftRight_eq_div_pow] using this
theorem xor_mod_two (a b : Nat) : (a ^^^ b) % 2 = (a + b) % 2 := by
  have h := @Nat.xor_mod_two_eq_one a b
  omega
theorem stepN_xor (a b : Nat) : stepN (a ^^^ b) = stepN a ^^^ stepN b := by
  unfold stepN
  rw [xor_div_two, xor_mod_two]
  by_cases ha : a % 2 = 1 <;> by_cases hb : b % 2 = 1
  · rw [if_neg (by omega), if_pos ha, if_pos hb, Nat.xor_assoc, Nat.xor_comm poly, Nat.xor_assoc, Nat.xor_self, Nat.xor_zero]
  · rw [if_pos (by omega), if_pos ha, if_neg hb, Nat.xor_assoc, Nat.xor_assoc, Nat.xor_comm poly]
  · rw [if_pos (by omega), if_neg ha, if_pos hb, Nat.xor_assoc]
  · rw [if_neg (by omega), if_neg ha, if_neg hb]
theorem stepsN_xor (k : Nat) : ∀ a b : Nat, stepsN k (a ^^^ b) = stepsN k a ^^^ stepsN k b := by
  induction k with
  | zero => intro a b; rfl
  | succ k ih => intro a b; show stepsN k (stepN (a ^^^ b)) = _; rw [stepN_xor, ih]; rfl
theorem stepsN_add (j k n : Nat) : stepsN (j + k) n = stepsN k (stepsN j n) := by
  induction j generalizing n with
  | zero => simp [stepsN]
  | succ j ih => rw [Nat.succ_add]; show stepsN (j + k) (stepN n) = _; rw [ih]; rfl
theorem stepN_lt (n : Nat) (h : n < 4294967296) : stepN n < 4294967296 := by
  unfold stepN
  split
  · exact Nat.xor_lt_two_pow (n := 32) (by omega) (by decide)
  · omega
theorem stepsN_lt (k n : Nat) (h : n < 4294967296) : stepsN k n < 4294967296 := by
  induction k generalizing n with
  | zero => exact h
  | succ k ih => exact ih _ (stepN_lt n h)
theorem stepN_zero (n : Nat) (h : n < 4294967296) (h0 : stepN n = 0) : n = 0 := by
  unfold stepN at h0
  split at h0
  · have : n / 2 = poly := by
      have h1 : n / 2 ^^^ poly ^^^ poly = 0 ^^^ poly := by rw [h0]
      rwa [Nat.xor_assoc, Nat.xor_self, Nat.xor_zero, Nat.zero_xor] at h1
    have hp : poly = 2197175160 := rfl
    omega
  · omega
theorem stepsN_zero (k n : Nat) (h : n < 4294967296) (h0 : stepsN k n = 0) : n = 0 := by
  induction k generalizing n with
  | zero => exact h0
  | succ k ih => exact stepN_zero n h (ih _ (stepN_lt n h) h0)
theorem xor_eq_zero' {a b : Nat} (h : a ^^^ b = 0) : a = b := by
  have h1 : a ^^^ b ^^^ b = 0 ^^^ b := by rw [h]
  rwa [Nat.xor_assoc, Nat.xor_self, Nat.xor_zero, Nat.zero_xor] at h1
theorem stepsN_inj (k a b : Nat) (ha : a < 4294967296) (hb : b < 4294967296) (h : stepsN k a = stepsN k b) : a = b := by
  apply xor_eq_zero'
  apply stepsN_zero k _ (Nat.xor_lt_two_pow (n := 32) ha hb)
  rw [stepsN_xor, h, Nat.xor_self]
theorem stepsN_0 (k : Nat) : stepsN k 0 = 0 := by
  induction k with
  | zero => rfl
  | succ k ih => show stepsN k (stepN 0) = 0; rw [show stepN 0 = 0 from rfl, ih]

theorem moreN_lt (s : Nat) (l : List Nat) (hs : s < 4294967296) (hl : ∀ x ∈ l, x < 256) : moreN s l < 4294967296 := by
  unfold moreN
  induction l generalizing s with
  | nil => exact hs
  | cons b r ih =>
    have hb := hl b (by simp)
    exact ih _ (stepsN_lt 8 _ (Nat.xor_lt_two_pow (n := 32) hs (by omega))) (fun x hx => hl x (by simp [hx]))
theorem moreN_xor (s t : Nat) (l : List Nat) : moreN (s ^^^ t) l = moreN s l ^^^ stepsN (8 * l.length) t := by
  unfold moreN
  induction l generalizing s t with
  | nil => simp [stepsN]
  | cons b r ih =>
    simp only [List.foldl_cons, List.length_cons]
    have e : stepsN 8 (s ^^^ t ^^^ b) = stepsN 8 (s ^^^ b) ^^^ stepsN 8 t := by
      rw [← stepsN_xor]; congr 1; rw [Nat.xor_assoc, Nat.xor_comm t b, ← Nat.xor_assoc]
    rw [e, ih, ← stepsN_add]
    congr 2
    omega
theorem moreN_append (s : Nat) (l r : List Nat) : moreN s (l ++ r) = moreN (moreN s l) r := by simp [moreN]
theorem moreN_snoc (s : Nat) (l : List Nat) (b : Nat) : moreN s (l ++ [b]) = stepsN 8 (moreN s l ^^^ b) := by simp [moreN]

/-- The other bits. -/
theorem not_xor (n : Nat) (h : n < 4294967296) : 4294967295 - n = n ^^^ 4294967295 := by
  have hn : n < 2 ^ 32 := h
  have b := congrArg BitVec.toNat (BitVec.xor_allOnes (x := BitVec.ofNat 32 n))
  have : n ^^^ 4294967295 = 4294967295 - n := by
    simpa [BitVec.toNat_xor, BitVec.toNat_allOnes, BitVec.toNat_not, Nat.mod_eq_of_lt hn] using b
  exact this.symm

/-- The sum of bytes that had a sum, and some more. -/
def crcMore (s : Nat) (l : List Nat) : Nat := 4294967295 - moreN (4294967295 - s) l
theorem crcMore_lt (s : Nat) (l : List Nat) : crcMore s l < 4294967296 := by unfold crcMore; omega
theorem crcMore_append (s : Nat) (l r : List Nat) (hs : s < 4294967296) (hl : ∀ x ∈ l, x < 256) : crcMore s (l ++ r) = crcMore (crcMore s l) r := by
  have h := moreN_lt (4294967295 - s) l (by omega) hl
  unfold crcMore
  rw [moreN_append]
  congr 2
  omega
theorem crcMore_join (l r : List Nat) (hl : ∀ x ∈ l, x < 256) (hr : ∀ x ∈ r, x < 256) : crcMore 0 (l ++ r) = stepsN (8 * r.length) (crcMore 0 l) ^^^ crcMore 0 r := by
  have hL := moreN_lt 4294967295 l (by omega) hl
  have hR := moreN_lt 4294967295 r (by omega) hr
  have h1 : crcMore 0 l = moreN 4294967295 l ^^^ 4294967295 := not_xor _ hL
  have h2 : crcMore 0 r = moreN 4294967295 r ^^^ 4294967295 := not_xor _ hR
  have h3 : crcMore 0 (l ++ r) = moreN (moreN 4294967295 l) r ^^^ 4294967295 := by
    unfold crcMore
    rw [Nat.sub_zero, moreN_append, not_xor _ (moreN_lt _ r hL hr)]
  have h4 : moreN 4294967295 l = 4294967295 ^^^ crcMore 0 l := by
    rw [h1, Nat.xor_comm (moreN 4294967295 l), ← Nat.xor_assoc, Nat.xor_self, Nat.zero_xor]
  rw [h3, h4, moreN_xor, h2]
  rw [Nat.xor_assoc, Nat.xor_comm (moreN 4294967295 r), Nat.xor_assoc, Nat.xor_comm 4294967295]

/-- What four steps make of the lowest four bits. -/
def nibL : List Nat := [0, 274646895, 549293790, 820201905, 1098587580, 1361435347, 1640403810, 1905808397, 2197175160, 2460548119, 2722870694, 2987750089, 3280807620, 3553878443, 3811616794, 4084100981]
theorem nib_steps : ∀ n : Fin 16, stepsN 4 n.val = nibL.getD n.val 0 := by decide
theorem nibble (v : Nat) : stepsN 4 v = v / 16 ^^^ nibL.getD (v % 16) 0 := by
  have e : v = v / 16 * 16 ^^^ v % 16 := by
    have h1 := nat_join 4 (v / 16 * 16) (v % 16) (by omega) (by omega)
    have h2 : v / 16 * 16 ^^^ v % 16 = v / 16 * 16 ||| v % 16 := by
      apply Nat.eq_of_testBit_eq
      intro i
      simp only [Nat.testBit_xor, Nat.testBit_or]
      have a1 : (v / 16 * 16).testBit i = (decide (4 ≤ i) && (v / 16).testBit (i - 4)) := by
        have := Nat.testBit_shiftLeft (v / 16) (i := 4) (j := i)
        simpa [Nat.shiftLeft_eq] using this
      have a2 : (v % 16).testBit i = (decide (i < 4) && v.testBit i) := Nat.testBit_mod_two_pow v 4 i
      rw [a1, a2]
      by_cases h : 4 ≤ i
      · have : ¬ i < 4 := by omega
        simp [h, this]
      · simp [h]
    rw [h2, h1]; omega
  have e2 : stepsN 4 (v / 16 * 16) = v / 16 := by
    have hs : ∀ x : Nat, stepN (x * 2) = x := fun x => by unfold stepN; rw [if_neg (by omega)]; omega
    show stepN (stepN (stepN (stepN (v / 16 * 16)))) = _
    rw [show v / 16 * 16 = v / 16 * 8 * 2 from by omega, hs, show v / 16 * 8 = v / 16 * 4 * 2 from by omega, hs, show v / 16 * 4 = v / 16 * 2 * 2 from by omega, hs, hs]
  have h := nib_steps ⟨v % 16, by omega⟩
  simp only at h
  have : stepsN 4 v = stepsN 4 (v / 16 * 16 ^^^ v % 16) := by rw [← e]
  rw [this, stepsN_xor, e2, h]
end Go.Proofs.YtficodklidaheaaDoor
/- package crc's More and Of, in a seat that has no Join: the pieces of C3, C7, C8. -/
namespace Go.Proofs.YtficodklidaheaaDoor
open Go.RowKit
attribute [local go_sem ↓] Go.wp_at_zero Go.wp_at_succ

theorem xor32 (a b : Nat) (ha : a < 4294967296) (hb : b < 4294967296) : bits .xor .u32 (a : Int) (b : Int) = ((a ^^^ b : Nat) : Int) := u32_xor_nat a b (by omega) (by omega)
theorem and32_1 (a : Nat) (ha : a < 4294967296) : bits .and .u32 (a : Int) 1 = ((a % 2 : Nat) : Int) := by
  have h := u32_and_nat a 1 (by omega) (by omega)
  rw [Nat.and_two_pow_sub_one_eq_mod a 1] at h
  exact h
theorem and32_15 (a : Nat) (ha : a < 4294967296) : bits .and .u32 (a : Int) 15 = ((a % 16 : Nat) : Int) := by
  have h := u32_and_nat a 15 (by omega) (by omega)
  rw [Nat.and_two_pow_sub_one_eq_mod a 4] at h
  exact h
theorem and32_bit (a j : Nat) (ha : a < 4294967296) : bits .and .u32 ((a : Int) / 2 ^ j) 1 = ((a / 2 ^ j % 2 : Nat) : Int) := by
  have e : (a : Int) / 2 ^ j = ((a / 2 ^ j : Nat) : Int) := by simp
  rw [e]
  exact and32_1 _ (Nat.lt_of_le_of_lt (Nat.div_le_self _ _) ha)

/-- The value v is a slice that reads as the bytes l. -/
def Row8 (w : World) (v : Value) (l : List Nat) : Prop :=
  ∃ (ao : Option Addr) (c : Nat), v = .slice ao l.length c ∧ (∀ x ∈ l, x < 256) ∧ ∀ j, j < l.length → ∃ a, ao = some a ∧ w.cell? (a.add j) = some (.int .u8 ((l.getD j 0 : Nat) : Int))
theorem Row8.kept {w w' : World} {v : Value} {l : List Nat} (h : Row8 w v l) (hk : Kept (fun _ => False) w w') : Row8 w' v l := by
  obtain ⟨ao, c, hv, hb, hc⟩ := h
  refine ⟨ao, c, hv, hb, fun j hj => ?_⟩
  obtain ⟨a, ha, h1⟩ := hc j hj
  exact ⟨a, ha, hk.cell h1 fun x => x⟩
/-- The table of the program's own variable. -/
def Nibs (w : World) : Prop := ∀ j, j < 16 → w.cell? ⟨0, j, none⟩ = some (.int .u32 ((nibL.getD j 0 : Nat) : Int))
theorem Nibs.kept {w w' : World} (h : Nibs w) (hk : Kept (fun _ => False) w w') : Nibs w' := fun j hj => hk.cell (h j hj) fun x => x
theorem nib_lt : ∀ n : Fin 16, nibL.getD n.val 0 < 4294967296 := by decide
theorem xor32_max (n : Nat) (h : n < 4294967296) : bits .xor .u32 IntKind.u32.max (n : Int) = ((4294967295 - n : Nat) : Int) := by
  have e := xor32 4294967295 n (by omega) h
  rw [Nat.xor_comm, ← not_xor n h] at e
  exact e
theorem takeSucc (l : List Nat) (j : Nat) (h : j < l.length) : l.take (j + 1) = l.take j ++ [l.getD j 0] := by
  rw [List.take_add_one, List.getD_eq_getElem?_getD, List.getElem?_eq_getElem h]; rfl
theorem getD_lt {l : List Nat} {B : Nat} (hb : ∀ x ∈ l, x < B) {j : Nat} (h : j < l.length) : l.getD j 0 < B := by
  apply hb
  rw [List.getD_eq_getElem?_getD, List.getElem?_eq_getElem h]; simp

set_option maxHeartbeats 1000000 in
theorem more_any (s : Nat) (v : Value) (l : List Nat) (hs : s < 4294967296) (hl : l.length ≤ 1000000000) (w : World) (HB : Row8 w v l) (HN : Nibs w) :
    Calls Tryd.prog 58 #[.int .u32 s, v] w fun e w' => e = .returned (.int .u32 ((crcMore s l : Nat) : Int)) ∧ w = w' := by
  obtain ⟨ao, c, rfl, hb, hc⟩ := HB
  have HJ : Hid (crcMore s l = 4294967295 - moreN (4294967295 - s) l) := Lib.hid rfl
  have e0 := xor32_max s hs
  go_enter Tryd.func58, Tryd.ntmps58
  go_wp2
  go_loopw [5, 12] (fun x t wr => ∃ j : Nat, j ≤ l.length ∧ x = .int .u32 ((moreN (4294967295 - s) (l.take j) : Nat) : Int) ∧ t = .int .i64 j ∧ w = wr) (fun _ t _ => l.length - (intOf t).toNat)
  case atStart => exact ⟨0, by omega, by simp [moreN], rfl, rfl⟩
  case round =>
    obtain ⟨j, hj, rfl, rfl, rfl⟩ := hrel
    by_cases hd : j < l.length
    · have hd' : (j : Int) < (l.length : Int) := by omega
      have hj0 : (0 : Int) ≤ (j : Int) := by omega
      obtain ⟨a, rfl, hca⟩ := hc j hd
      have hT0 := getD_lt hb hd
      have HT := Lib.hid (takeSucc l j hd)
      have hV0 := moreN_lt (4294967295 - s) (l.take j) (by omega) (fun x hx => hb x (List.mem_of_mem_take hx))
      obtain ⟨T, hT⟩ : ∃ T, T = l.getD j 0 := ⟨_, rfl⟩
      rw [← hT] at hca hT0 HT
      clear hT hc
      obtain ⟨V, hV⟩ : ∃ V, V = moreN (4294967295 - s) (l.take j) := ⟨_, rfl⟩
      rw [← hV] at hV0 ⊢
      have HV := Lib.hid hV
      clear hV
      have e1 : IntKind.u32.wrap (T : Int) = (T : Int) := by rw [IntKind.wrap_u32]; omega
      have e2 := xor32 V T hV0 (by omega)
      have hU0 : V ^^^ T < 4294967296 := Nat.xor_lt_two_pow (n := 32) hV0 (by omega)
      have HE2 := Lib.hid e2
      go_wp2
      clear e0 e1 e2 hca
      go_loopw [5, 20] (fun x t wr => ∃ k : Nat, k ≤ 2 ∧ x = .int .u32 ((stepsN (4 * k) (V ^^^ T) : Nat) : Int) ∧ t = .int .i64 k ∧ w = wr) (fun _ t _ => 2 - (intOf t).toNat)
      case atStart => exact ⟨0, by omega, rfl, rfl, rfl⟩
      case round =>
        obtain ⟨k, hk, rfl, rfl, rfl⟩ := hrel
        by_cases hd2 : k < 2
        · have hk' : (k : Int) < 2 := by omega
          have hk0 : (0 : Int) ≤ (k : Int) := by omega
          have hW0 := stepsN_lt (4 * k) (V ^^^ T) hU0
          obtain ⟨U, hU⟩ : ∃ U, U = stepsN (4 * k) (V ^^^ T) := ⟨_, rfl⟩
          rw [← hU] at hW0 ⊢
          have hn4 : stepsN (4 * (k + 1)) (V ^^^ T) = U / 16 ^^^ nibL.getD (U % 16) 0 := by rw [← nibble, hU, ← stepsN_add]; rfl
          have hI0 : U % 16 < 16 := Nat.mod_lt _ (by omega)
          have e3 := and32_15 U hW0
          have hcN := HN (U % 16) hI0
          have hG0 := nib_lt ⟨U % 16, hI0⟩
          simp only at hG0
          obtain ⟨I, hI⟩ : ∃ I, I = U % 16 := ⟨_, rfl⟩
          rw [← hI] at hI0 e3 hcN hG0 hn4
          obtain ⟨G, hG⟩ : ∃ G, G = nibL.getD I 0 := ⟨_, rfl⟩
          rw [← hG] at hcN hG0 hn4
          have HN4 := Lib.hid hn4
          have e4 : bits .xor .u32 ((U : Int) / 16) (G : Int) = ((U / 16 ^^^ G : Nat) : Int) := by
            have := xor32 (U / 16) G (by omega) hG0
            rw [← this]; simp
          have HNN := Lib.hid HN
          have i0 : (0 : Int) ≤ (I : Int) := by omega
          have i1 : (I : Int) < 16 := by omega
          clear hI hG hn4 hU HN
          go_wp2
          go_roundw
          case rel => exact ⟨k + 1, hd2, by rw [HN4.out], by go_num, trivial⟩
          case measure => simp [intOf]; omega
        · obtain rfl : k = 2 := by omega
          go_wp2
          go_roundw
          case rel => exact ⟨j + 1, hd, by rw [HT.out, moreN_snoc, ← HV.out], by go_num, trivial⟩
          case measure => simp [intOf]; omega
    · obtain rfl : j = l.length := by omega
      rw [List.take_length]
      have hV0 := moreN_lt (4294967295 - s) l (by omega) hb
      have HX := Lib.hid (xor32_max _ hV0)
      clear hc
      go_wp2
      go_ret
      exact ⟨by rw [HJ.out, ← HX.out]; rfl, rfl⟩
set_option maxHeartbeats 1000000 in
theorem crcOf_any (v : Value) (l : List Nat) (hl : l.length ≤ 1000000000) (w : World) (HB : Row8 w v l) (HN : Nibs w) :
    Calls Tryd.prog 59 #[v] w fun e w' => e = .returned (.int .u32 ((crcMore 0 l : Nat) : Int)) ∧ w = w' := by
  go_enter Tryd.func59, Tryd.ntmps59
  go_wp2_with (go_at_call 58; refine (more_any 0 v l (by omega) hl _ HB HN).mono ?_; rintro e w' ⟨rfl, rfl⟩)
  go_ret
  exact ⟨rfl, rfl⟩

end Go.Proofs.YtficodklidaheaaDoor
/- package frame, layer 4: Size, four. -/
namespace Go.Proofs.YtficodklidaheaaDoor
open Go.RowKit
attribute [local go_sem ↓] Go.wp_at_zero Go.wp_at_succ

/-- A number's four bytes, the lowest first. -/
def fourL (v : Nat) : List Nat := [v % 256, v / 256 % 256, v / 65536 % 256, v / 16777216 % 256]
def b8 (l : List Nat) : List Value := l.map fun (n : Nat) => Value.int .u8 (n : Int)
def sizeN (n : Int) : Int := if n < 0 ∨ 65536 < n then 0 else 9 + n

set_option maxHeartbeats 1000000 in
theorem four_any (v : Nat) (_hv : v < 4294967296) (w : World) :
    Calls Tryd.prog 62 #[.int .u32 v] w fun e w' => e = .returned (.slice (some ⟨w.heap.size, 0, none⟩) 4 4) ∧ w' = w.alloc (.cells (b8 (fourL v)).toArray 5) := by
  have e1 : IntKind.u8.wrap (v : Int) = ((v % 256 : Nat) : Int) := by rw [IntKind.wrap_u8]; omega
  have e2 : IntKind.u8.wrap ((v : Int) / 256) = ((v / 256 % 256 : Nat) : Int) := by rw [IntKind.wrap_u8]; omega
  have e3 : IntKind.u8.wrap ((v : Int) / 65536) = ((v / 65536 % 256 : Nat) : Int) := by rw [IntKind.wrap_u8]; omega
  have e4 : IntKind.u8.wrap ((v : Int) / 16777216) = ((v / 16777216 % 256 : Nat) : Int) := by rw [IntKind.wrap_u8]; omega
  have HE : Hid (b8 (fourL v) = [.int .u8 ((v % 256 : Nat) : Int), .int .u8 ((v / 256 % 256 : Nat) : Int), .int .u8 ((v / 65536 % 256 : Nat) : Int), .int .u8 ((v / 16777216 % 256 : Nat) : Int)]) := Lib.hid rfl
  go_enter Tryd.func62, Tryd.ntmps62
  go_wp2
  go_ret
  exact ⟨rfl, by rw [HE.out]; rfl⟩

set_option maxHeartbeats 1000000 in
theorem size_any (n : Int) (h0 : -9223372036854775808 ≤ n) (h1 : n ≤ 9223372036854775807) (w : World) :
    Calls Tryd.prog 94 #[.int .i64 n] w fun e w' => e = .returned (.int .i64 (sizeN n)) ∧ w = w' := by
  have HS : Hid (sizeN n = if n < 0 ∨ 65536 < n then 0 else 9 + n) := Lib.hid rfl
  by_cases hn : n < 0
  · have c1 : decide (n < 0) = true := decide_eq_true hn
    go_enter Tryd.func94, Tryd.ntmps94
    go_wp2
    go_ret
    exact ⟨by rw [HS.out, if_pos (Or.inl hn)]; rfl, rfl⟩
  · by_cases hb : 65536 < n
    · have c1 : decide (n < 0) = false := decide_eq_false hn
      have c2 : decide (65536 < n) = true := decide_eq_true hb
      go_enter Tryd.func94, Tryd.ntmps94
      go_wp2
      go_ret
      exact ⟨by rw [HS.out, if_pos (Or.inr hb)]; rfl, rfl⟩
    · have c1 : decide (n < 0) = false := decide_eq_false hn
      have c2 : decide (65536 < n) = false := decide_eq_false hb
      have e1 : IntKind.i64.wrap (9 + n) = 9 + n := IntWalk.i64_in _ ⟨by omega, by omega⟩
      go_enter Tryd.func94, Tryd.ntmps94
      go_wp2
      go_ret
      exact ⟨by rw [HS.out, if_neg (by omega)]; rfl, rfl⟩
end Go.Proofs.YtficodklidaheaaDoor
namespace Go.Proofs.YtficodklidaheaaDoor
open Go.RowKit
attribute [local go_sem ↓] Go.wp_at_zero Go.wp_at_succ
/-- The number of four bytes, the lowest first. -/
def numL (l : List Nat) : Nat := l.getD 0 0 + 256 * l.getD 1 0 + 65536 * l.getD 2 0 + 16777216 * l.getD 3 0
theorem num_four (v : Nat) (hv : v < 4294967296) : numL (fourL v) = v := by
  simp [numL, fourL]; omega
theorem numL_lt (l : List Nat) (h : ∀ j, j < 4 → l.getD j 0 < 256) : numL l < 4294967296 := by
  have h0 := h 0 (by omega)
  have h1 := h 1 (by omega)
  have h2 := h 2 (by omega)
  have h3 := h 3 (by omega)
  unfold numL
  omega
end Go.Proofs.YtficodklidaheaaDoor
/- package frame, layer 4: number; Wrap of too much. -/
namespace Go.Proofs.YtficodklidaheaaDoor
open Go.RowKit
attribute [local go_sem ↓] Go.wp_at_zero Go.wp_at_succ

theorem or32_join (a b s : Nat) (ha : a < 2 ^ s) (hm : b % 2 ^ s = 0) (hb : b < 4294967296) (ha' : a < 4294967296) : bits .or .u32 (a : Int) (b : Int) = ((a + b : Nat) : Int) := by
  have h := u32_or_nat a b (by omega) (by omega)
  rw [Nat.or_comm, nat_join s b a hm ha, Nat.add_comm] at h
  exact h

set_option maxHeartbeats 1000000 in
theorem number_any (v : Value) (l : List Nat) (hl : l.length = 4) (w : World) (HB : Row8 w v l) :
    Calls Tryd.prog 57 #[v] w fun e w' => e = .returned (.int .u32 ((numL l : Nat) : Int)) ∧ ∃ q, w' = w.drewN q := by
  obtain ⟨ao, c, rfl, hb, hc⟩ := HB
  obtain ⟨a, rfl, h0⟩ := hc 0 (by omega)
  obtain ⟨_, e, h1⟩ := hc 1 (by omega)
  cases e
  obtain ⟨_, e, h2⟩ := hc 2 (by omega)
  cases e
  obtain ⟨_, e, h3⟩ := hc 3 (by omega)
  cases e
  have b0 := getD_lt hb (j := 0) (by omega)
  have b1 := getD_lt hb (j := 1) (by omega)
  have b2 := getD_lt hb (j := 2) (by omega)
  have b3 := getD_lt hb (j := 3) (by omega)
  have HL : Hid (numL l = l.getD 0 0 + 256 * l.getD 1 0 + 65536 * l.getD 2 0 + 16777216 * l.getD 3 0) := Lib.hid rfl
  obtain ⟨A, hA⟩ : ∃ A, A = l.getD 0 0 := ⟨_, rfl⟩
  obtain ⟨B, hB⟩ : ∃ B, B = l.getD 1 0 := ⟨_, rfl⟩
  obtain ⟨C, hC⟩ : ∃ C, C = l.getD 2 0 := ⟨_, rfl⟩
  obtain ⟨D, hD⟩ : ∃ D, D = l.getD 3 0 := ⟨_, rfl⟩
  rw [← hA] at h0 b0 HL
  rw [← hB] at h1 b1 HL
  rw [← hC] at h2 b2 HL
  rw [← hD] at h3 b3 HL
  rw [hl]
  simp [Addr.add] at h0 h1 h2 h3
  have w0 : IntKind.u32.wrap (A : Int) = (A : Int) := by rw [IntKind.wrap_u32]; omega
  have w1 : IntKind.u32.wrap (B : Int) = (B : Int) := by rw [IntKind.wrap_u32]; omega
  have w2 : IntKind.u32.wrap (C : Int) = (C : Int) := by rw [IntKind.wrap_u32]; omega
  have w3 : IntKind.u32.wrap (D : Int) = (D : Int) := by rw [IntKind.wrap_u32]; omega
  have s1 : IntKind.u32.wrap ((B : Int) * 256) = ((256 * B : Nat) : Int) := by rw [IntKind.wrap_u32]; omega
  have s2 : IntKind.u32.wrap ((C : Int) * 65536) = ((65536 * C : Nat) : Int) := by rw [IntKind.wrap_u32]; omega
  have s3 : IntKind.u32.wrap ((D : Int) * 16777216) = ((16777216 * D : Nat) : Int) := by rw [IntKind.wrap_u32]; omega
  have o1 := or32_join A (256 * B) 8 (by omega) (by omega) (by omega) (by omega)
  have o2 := or32_join (A + 256 * B) (65536 * C) 16 (by omega) (by omega) (by omega) (by omega)
  have o3 := or32_join (A + 256 * B + 65536 * C) (16777216 * D) 24 (by omega) (by omega) (by omega) (by omega)
  have OO : bits .or .u32 (bits .or .u32 (bits .or .u32 (A : Int) (256 * (B : Int))) (65536 * (C : Int))) (16777216 * (D : Int)) = ((numL l : Nat) : Int) := by
    rw [show (256 * (B : Int)) = ((256 * B : Nat) : Int) by simp, show (65536 * (C : Int)) = ((65536 * C : Nat) : Int) by simp, show (16777216 * (D : Int)) = ((16777216 * D : Nat) : Int) by simp, o1, o2, o3, ← HL.out]
  have HO := Lib.hid OO
  clear OO o1 o2 o3 hc hb hA hB hC hD hl b0 b1 b2 b3
  go_enter Tryd.func57, Tryd.ntmps57
  go_wp2
  go_quiet (fail)
  go_wp2
  go_ret
  exact ⟨by rw [← HO.out]; rfl, _, rfl⟩
end Go.Proofs.YtficodklidaheaaDoor
/- package frame, layer 4: Wrap. -/
namespace Go.Proofs.YtficodklidaheaaDoor
open Go.RowKit
attribute [local go_sem ↓] Go.wp_at_zero Go.wp_at_succ

theorem info_u8 : (Tryd.prog.info? 5).map (fun i => (i.zero, i.size, i.bytes)) = some (some (.int .u8 0), 1, 1) := by kernel_rfl
theorem b8_len (l : List Nat) : (b8 l).length = l.length := by simp [b8]
theorem b8_append (a b : List Nat) : b8 (a ++ b) = b8 a ++ b8 b := by simp [b8]
theorem b8_at (l : List Nat) (j : Nat) (h : j < l.length) : (b8 l)[j]? = some (.int .u8 ((l.getD j 0 : Nat) : Int)) := by
  simp [b8, List.getElem?_map, List.getElem?_eq_getElem h, List.getD_eq_getElem?_getD]
theorem b8_one (l : List Nat) : ∀ u ∈ b8 l, u.oneCell' = true := by
  intro u hu; obtain ⟨x, _, rfl⟩ := List.mem_map.1 hu; rfl
theorem Row8.nil {w : World} {c : Nat} {l : List Nat} {n : Nat} (h : Row8 w (.slice none n c) l) : l = [] := by
  obtain ⟨ao, c', hv, _, hc⟩ := h
  cases hv
  cases l with
  | nil => rfl
  | cons x r => obtain ⟨_, h, _⟩ := hc 0 (by simp); cases h
theorem Row8.src' {w : World} {v : Value} {l : List Nat} (h : Row8 w v l) : Src Tryd.prog 1 22 v l.length (b8 l) w := by
  have h0 := h
  obtain ⟨ao, c, rfl, hb, hc⟩ := h
  cases ao with
  | none =>
    obtain rfl := h0.nil
    exact Src.ofNil _ Tryd.underlying22 _
  | some a =>
    refine Src.ofSlice _ Tryd.underlying22 _ l.length c (b8 l) (by simp [b8]) (fun j u hu => ?_) (b8_one l)
    have hj : j < l.length := by have := (List.getElem?_eq_some_iff.1 hu).1; simpa [b8] using this
    obtain ⟨a', ha, hca⟩ := hc j hj
    cases ha
    rw [b8_at l j hj] at hu
    cases hu
    exact hca
theorem row8_own {w : World} {base n : Nat} {v : Value} {l : List Nat} (hb : ∀ x ∈ l, x < 256) (ho : w.ownsRow base 5 1 v n (b8 l)) : Row8 w v l := by
  have hn : n = l.length := by have := ho.1; rw [b8_len] at this; omega
  subst hn
  rcases ho.2 with ⟨rfl, h⟩ | ⟨g, cap, cur, rfl, hg1, hg2, hg3, hg4, hg5, hg6⟩
  · have : l = [] := List.eq_nil_of_length_eq_zero h
    subst this
    exact ⟨none, 0, rfl, by simp, fun j hj => absurd hj (by simp)⟩
  · refine ⟨some ⟨g, 0, none⟩, cap, rfl, hb, fun j hj => ⟨_, rfl, ho.cells rfl j _ (b8_at l j hj)⟩⟩
theorem Row8.lt {w : World} {v : Value} {l : List Nat} (h : Row8 w v l) : ∀ x ∈ l, x < 256 := by obtain ⟨_, _, _, hb, _⟩ := h; exact hb
theorem row8_new (w : World) (n c : Nat) (l : List Nat) (E : TypeId) (fr : Nat × Nat) (hn : n = w.heap.size) (hb : ∀ x ∈ l, x < 256) : Row8 (w.alloc (.cells (b8 l).toArray E fr)) (.slice (some ⟨n, 0, none⟩) l.length c) l := by
  refine ⟨some ⟨n, 0, none⟩, c, rfl, hb, fun j hj => ⟨_, rfl, ?_⟩⟩
  have e : (⟨n, 0, none⟩ : Addr).add j = ⟨n, j, none⟩ := by unfold Addr.add; split <;> simp_all
  rw [e, cell_of_row _ _ j _ E fr (by rw [hn]; exact heap_alloc_new _ _)]
  simpa using b8_at l j hj
theorem own_new (w : World) (n : Nat) (l : List Nat) (hm : l.length ≤ maxLen) (hn : n = w.heap.size) (m : Nat) (hme : m = l.length) : (w.alloc (.cells (b8 l).toArray 5)).ownsRow w.heap.size 5 1 (.slice (some ⟨n, 0, none⟩) m m) m (b8 l) := by
  subst hn
  subst hme
  refine ⟨by simp [b8], .inr ⟨w.heap.size, l.length, _, rfl, Nat.le_refl _, heap_alloc_new w _, Nat.le_refl _, hm, by simp [b8], ?_⟩⟩
  show List.take (l.length * 1) (b8 l) = b8 l
  rw [Nat.mul_one, ← b8_len l, List.take_length]
theorem fourL_lt (v : Nat) : ∀ x ∈ fourL v, x < 256 := by
  intro x hx
  simp [fourL] at hx
  rcases hx with rfl | rfl | rfl | rfl <;> omega
theorem fourL_len (v : Nat) : (fourL v).length = 4 := rfl

/-- A frame's head, its sum, and the frame. -/
def headL (l : List Nat) : List Nat := 165 :: fourL l.length
def sumL (l : List Nat) : Nat := crcMore (crcMore 0 (headL l)) l
def frameL (l : List Nat) : List Nat := headL l ++ fourL (sumL l) ++ l
theorem headL_len (l : List Nat) : (headL l).length = 5 := rfl
theorem frameL_len (l : List Nat) : (frameL l).length = 9 + l.length := by simp [frameL, headL, fourL]; omega
theorem headL_lt (l : List Nat) : ∀ x ∈ headL l, x < 256 := by
  intro x hx
  rcases List.mem_cons.1 hx with rfl | hx
  · omega
  · exact fourL_lt _ x hx
theorem frameL_lt (l : List Nat) (h : ∀ x ∈ l, x < 256) : ∀ x ∈ frameL l, x < 256 := by
  intro x hx
  rcases List.mem_append.1 hx with hx | hx
  · rcases List.mem_append.1 hx with hx | hx
    · exact headL_lt l x hx
    · exact fourL_lt _ x hx
  · exact h x hx
theorem sumL_eq (l : List Nat) : sumL l = crcMore 0 (headL l ++ l) := (crcMore_append 0 _ _ (by omega) (headL_lt l)).symm
theorem sumL_lt (l : List Nat) : sumL l < 4294967296 := crcMore_lt _ _

/-- What Wrap answers. -/
def Wrapped (w : World) (l : List Nat) (e : Ending) (w' : World) : Prop :=
  ∃ v, e = .returned (.tuple #[v, .int .i64 0]) ∧ w'.ownsRow w.heap.size 5 1 v (9 + l.length) (b8 (frameL l)) ∧ Kept (fun _ => False) w w'

set_option maxHeartbeats 1000000 in
theorem wrap_large (ao : Option Addr) (n c : Nat) (hl : 65536 < n) (w : World) :
    Calls Tryd.prog 19 #[.slice ao n c] w fun e w' => e = .returned (.tuple #[.slice none 0 0, .int .i64 4]) ∧ w = w' := by
  have c1 : decide ((65536 : Int) < (n : Int)) = true := decide_eq_true (by omega)
  go_enter Tryd.func19, Tryd.ntmps19
  go_wp2
  go_ret2
  exact ⟨rfl, rfl⟩

set_option maxHeartbeats 1000000 in
theorem wrap_any (v : Value) (l : List Nat) (hl : l.length ≤ 65536) (w : World) (HB : Row8 w v l) (HN : Nibs w) :
    Calls Tryd.prog 19 #[v] w (Wrapped w l) := by
  obtain ⟨i0, hi, hz0, hz1, hz2⟩ := info_parts info_u8
  have hb := HB.lt
  have hv := HB
  obtain ⟨ao, c, rfl, _, _⟩ := hv
  have c1 : decide ((65536 : Int) < (l.length : Int)) = false := decide_eq_false (by omega)
  have e1 : IntKind.u32.wrap (l.length : Int) = (l.length : Int) := by rw [IntKind.wrap_u32]; omega
  have HF := Lib.hid (four_any l.length (by omega))
  have HG := Lib.hid (four_any (sumL l) (sumL_lt l))
  have hS := crcMore_lt 0 (headL l)
  have hF1 : fourL l.length = fourL l.length := rfl
  have HSU : Hid (sumL l = crcMore (crcMore 0 (headL l)) l) := Lib.hid rfl
  obtain ⟨S0, hS0⟩ : ∃ x, x = crcMore 0 (headL l) := ⟨_, rfl⟩
  rw [← hS0] at hS HSU
  obtain ⟨S1, hS1⟩ : ∃ x, x = sumL l := ⟨_, rfl⟩
  rw [← hS1] at HG HSU
  have HE : Hid (frameL l = headL l ++ fourL S1 ++ l) := Lib.hid (by rw [hS1]; rfl)
  have HB' := Lib.hid HB
  have HN' := Lib.hid HN
  have HS0 := Lib.hid hS0
  have Hb := Lib.hid hb
  clear HB HN hS0 hS1 hb hF1
  go_enter Tryd.func19, Tryd.ntmps19
  go_wp2_with (first
    | (go_at_call 62; refine (HF.out _).mono ?_; rintro e w' ⟨rfl, rfl⟩)
    | (at_builtin; refine wpList_append_src _ rfl (.tmp 9) (.tmp 13) 22 22 rfl w.heap.size 5 i0 (.int .u8 0) 1 1 Tryd.underlying22 hi hz0 hz1 hz2 rfl (.slice (some ⟨w.heap.size, 0, none⟩) 1 1) 1 (b8 [165]) rfl ?c0 (.slice (some ⟨w.heap.size + 1, 0, none⟩) 4 4) 4 (b8 (fourL l.length)) ?cv ?cs ?c1 ?c2 ?c3 ?_))
  case c0 => exact ((Kept.refl (fun _ => False) _).alloc _).owns (own_new w w.heap.size [165] (by simp [maxLen]) rfl 1 rfl) (fun _ _ x => x)
  case cv => rfl
  case cs => exact (row8_new _ _ 4 (fourL l.length) 5 (0, 0) (by simp) (fourL_lt _)).src'
  case c1 => simp [maxLen]
  case c2 => omega
  case c3 => simp; omega
  intro v1 w1 hown hg _ _
  have K1 : Kept (fun _ => False) w w1 := (((Kept.refl _ w).alloc _).alloc _).grown hg (fun k e hlt => by simp [Value.ownBlock] at e; omega)
  have O1 : w1.ownsRow w.heap.size 5 1 v1 5 (b8 (headL l)) := hown
  have R1 := row8_own (headL_lt l) O1
  have D1 := crcOf_any v1 (headL l) (by rw [headL_len]; omega) w1 R1 (HN'.out.kept K1)
  rw [← HS0.out] at D1
  have D2 := more_any S0 _ l hS (by omega) w1 (HB'.out.kept K1) (HN'.out.kept K1)
  rw [← HSU.out] at D2
  have E1 := Lib.hid D1
  have E2 := Lib.hid D2
  have P1 := Lib.hid O1
  have Q1 := Lib.hid K1
  clear hown hg R1 D1 D2 O1 K1
  go_wp2_with (first
    | (go_at_call 62; refine (HG.out _).mono ?_; rintro e w' ⟨rfl, rfl⟩)
    | (go_at_call 59; refine E1.out.mono ?_; rintro e w' ⟨rfl, rfl⟩)
    | (go_at_call 58; refine E2.out.mono ?_; rintro e w' ⟨rfl, rfl⟩)
    | (at_builtin; refine wpList_append_src _ rfl (.tmp 19) (.tmp 21) 22 22 rfl w.heap.size 5 i0 (.int .u8 0) 1 1 Tryd.underlying22 hi hz0 hz1 hz2 rfl v1 5 (b8 (headL l)) rfl ?c0 (.slice (some ⟨w1.heap.size, 0, none⟩) 4 4) 4 (b8 (fourL S1)) ?cv ?cs ?c1 ?c2 ?c3 ?_))
  case c0 => exact ((Kept.refl (fun _ => False) _).alloc _).owns P1.out (fun _ _ x => x)
  case cv => rfl
  case cs => exact (row8_new _ _ 4 (fourL S1) 5 (0, 0) (by simp) (fourL_lt _)).src'
  case c1 => simp [maxLen]
  case c2 => omega
  case c3 => have := Q1.out.size; simp; omega
  intro v2 w2 hown hg _ hat
  have K2 : Kept (fun _ => False) w w2 := (Q1.out.alloc _).grown hg (fun k e hlt => by have := (ownsRow_lt P1.out e).2; omega)
  have O2 : w2.ownsRow w.heap.size 5 1 v2 9 (b8 (headL l ++ fourL S1)) := by rw [b8_append]; exact hown
  have P2 := Lib.hid O2
  have Q2 := Lib.hid K2
  clear hown hg hat O2 K2 E1 E2 P1
  go_wp2_with (at_builtin; refine wpList_append_src _ rfl (.tmp 23) (.tmp 24) 22 22 rfl w.heap.size 5 i0 (.int .u8 0) 1 1 Tryd.underlying22 hi hz0 hz1 hz2 rfl v2 9 (b8 (headL l ++ fourL S1)) rfl ?c0 (.slice ao l.length c) l.length (b8 l) ?cv ?cs ?c1 ?c2 ?c3 ?_)
  case c0 => exact P2.out
  case cv => rfl
  case cs => exact (HB'.out.kept Q2.out).src'
  case c1 => simp [maxLen]; omega
  case c2 => omega
  case c3 => have := Q2.out.size; simp; omega
  intro v3 w3 hown hg _ hat
  have HW : Wrapped w l (.returned (.tuple #[v3, .int .i64 0])) w3 := ⟨v3, rfl, by rw [HE.out, b8_append]; exact hown, Q2.out.grown hg (fun k e hlt => by have := (ownsRow_lt P2.out e).2; omega)⟩
  clear hown hg hat P2 Q2
  go_wp2
  go_ret2
  exact HW
end Go.Proofs.YtficodklidaheaaDoor
