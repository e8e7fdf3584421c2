/- package glob, layer 32: sets of bytes, four words. -/
import Derived.Test.YtjbjfdmdicfjfaaD3
namespace Go.Proofs.Ytjbjfdmdicfjfaa
open Go.RowKit
attribute [local go_sem ↓] Go.wp_at_zero Go.wp_at_succ

/-- Four words are a set. -/
structure Wd (W : List Nat) (f : Nat → Bool) : Prop where
  len : W.length = 4
  lt : ∀ x ∈ W, x < 18446744073709551616
  has : ∀ x, x < 256 → (W.getD (x / 64) 0).testBit (x % 64) = f x
theorem Wd.zero : Wd [0, 0, 0, 0] noF := ⟨rfl, by simp, fun x _ => by
  have : ([0, 0, 0, 0] : List Nat).getD (x / 64) 0 = 0 := by
    rw [List.getD_eq_getElem?_getD]
    rcases h : ([0, 0, 0, 0] : List Nat)[x / 64]? with _ | y
    · rfl
    · have := List.mem_of_getElem? h
      simp at this
      simp [this]
  rw [this]; simp [noF]⟩
theorem Wd.getD_lt {W : List Nat} {f : Nat → Bool} (h : Wd W f) (j : Nat) : W.getD j 0 < 18446744073709551616 := by
  rw [List.getD_eq_getElem?_getD]
  rcases e : W[j]? with _ | y
  · simp
  · exact h.lt y (List.mem_of_getElem? e)
/-- A set with one byte more. -/
theorem Wd.put {W : List Nat} {f : Nat → Bool} (h : Wd W f) {c : Nat} (hc : c < 256) : Wd (W.set (c / 64) (W.getD (c / 64) 0 ||| 2 ^ (c % 64))) (orF f c c) := by
  have hlt : W.getD (c / 64) 0 ||| 2 ^ (c % 64) < 2 ^ 64 := Nat.or_lt_two_pow (h.getD_lt _) (Nat.pow_lt_pow_right (by omega) (by omega))
  refine ⟨by rw [List.length_set, h.len], fun x hx => ?_, fun x hx => ?_⟩
  · rcases List.mem_or_eq_of_mem_set hx with e | e
    · exact h.lt x e
    · rw [e]; exact hlt
  · have hl := h.len
    unfold orF
    by_cases hq : x / 64 = c / 64
    · rw [hq, List.getD_eq_getElem?_getD, List.getElem?_set_self (by omega), Option.getD_some, Nat.testBit_or, Nat.testBit_two_pow, ← hq, h.has x hx]
      congr 1
      apply decide_eq_decide.2
      omega
    · rw [List.getD_eq_getElem?_getD, List.getElem?_set_ne (fun e => hq e.symm), ← List.getD_eq_getElem?_getD, h.has x hx, decide_eq_false (by omega), Bool.or_false]
theorem orF_succ (f : Nat → Bool) (a b : Nat) (h : a ≤ b + 1) : orF (orF f a b) (b + 1) (b + 1) = orF f a (b + 1) := by
  funext x
  unfold orF
  rw [Bool.or_assoc]
  congr 1
  rw [← Bool.decide_or]
  apply decide_eq_decide.2
  omega
theorem orF_none (f : Nat → Bool) (a b : Nat) (h : b < a) : orF f a b = f := by
  funext x
  unfold orF
  rw [decide_eq_false (by omega), Bool.or_false]
/-- All bytes that aren't in a set. -/
theorem Wd.other {W : List Nat} {f : Nat → Bool} (h : Wd W f) : Wd (W.map fun x => 18446744073709551615 - x) (fun x => !f x) := by
  refine ⟨by rw [List.length_map, h.len], fun x hx => ?_, fun x hx => ?_⟩
  · obtain ⟨y, _, rfl⟩ := List.mem_map.1 hx
    omega
  · have hl := h.len
    have hj : x / 64 < W.length := by omega
    rw [List.getD_eq_getElem?_getD, List.getElem?_map, List.getElem?_eq_getElem hj]
    simp only [Option.map_some, Option.getD_some]
    have hx2 := h.has x hx
    rw [List.getD_eq_getElem?_getD, List.getElem?_eq_getElem hj, Option.getD_some] at hx2
    rw [← hx2]
    have hlt : W[x / 64] < 2 ^ 64 := h.lt _ (List.getElem_mem hj)
    have := Nat.testBit_two_pow_sub_succ hlt (x % 64)
    rw [show 18446744073709551615 - W[x / 64] = 2 ^ 64 - (W[x / 64] + 1) by omega, this, decide_eq_true (show x % 64 < 64 by omega), Bool.true_and]

theorem bit64 (x j : Nat) (hx : x < 18446744073709551616) (b : Bool) (hb : x.testBit j = b) : (bits .and .u64 ((x : Int) / 2 ^ j) 1 == 1) = b := by
  have e : (x : Int) / 2 ^ j = ((x / 2 ^ j : Nat) : Int) := by simp
  have h := u64_and_nat (x / 2 ^ j) 1 (Nat.lt_of_le_of_lt (Nat.div_le_self _ _) hx) (by omega)
  rw [Nat.and_two_pow_sub_one_eq_mod (x / 2 ^ j) 1] at h
  have h2 : bits .and .u64 ((x : Int) / 2 ^ j) 1 = ((x / 2 ^ j % 2 : Nat) : Int) := by rw [e]; exact h
  rw [h2, ← hb, Nat.testBit_eq_decide_div_mod_eq]
  rcases Nat.mod_two_eq_zero_or_one (x / 2 ^ j) with h | h <;> rw [h] <;> rfl
set_option maxHeartbeats 2000000 in
theorem has_any (W : List Nat) (f : Nat → Bool) (hW : Wd W f) (c : Nat) (hc : c < 256) (w : World) :
    Calls Try.prog 25 #[.agg (uvals W).toArray, .int .u8 (c : Int)] w fun e w' => e = .returned (.bool (f c)) ∧ Kept (fun _ => False) w w' := by
  have hl := hW.len
  have hv : ∃ x, x = W.getD (c / 64) 0 := ⟨_, rfl⟩
  obtain ⟨x, hx⟩ := hv
  have hlt := hW.getD_lt (c / 64)
  have hb := hW.has c hc
  rw [← hx] at hlt hb
  obtain ⟨wa, hwa⟩ : ∃ wa, wa = w.alloc (.cells (uvals W).toArray 43) := ⟨_, rfl⟩
  have hbox : wa.heap[w.heap.size]? = some (.cells (uvals W).toArray 43 (0, 0)) := by rw [hwa]; exact heap_alloc_new w _
  have hcell : wa.cell? ⟨w.heap.size, c / 64, none⟩ = some (.int .u64 (x : Int)) := by
    rw [cell_of_row _ _ _ _ _ _ hbox, hx]
    simpa using uvals_get (l := W) (j := c / 64) (by omega)
  have hk : Kept (fun _ => False) w wa := by rw [hwa]; exact (Kept.refl _ _).alloc _
  have HK := Lib.hid hk
  go_enter Try.func25, Try.ntmps25
  go_upto_region 1 with fail
  rw [← hwa]
  obtain ⟨g, hg⟩ : ∃ g, g = w.heap.size := ⟨_, rfl⟩
  rw [← hg] at hcell ⊢
  have HR := Lib.hid (bit64 x (c % 64) hlt _ hb)
  clear hk hbox hwa hg hx hb hlt hW
  go_wp2
  go_ret
  exact ⟨by rw [HR.out]; rfl, HK.out⟩

/-- A piece for a set: its cells. -/
def pcs (W : List Nat) : Array Value := (([.int .i64 2, .int .u8 0] : List Value) ++ uvals W).toArray
theorem pcs_set (W : List Nat) (j x : Nat) : (pcs W).setIfInBounds (2 + j) (.int .u64 (x : Int)) = pcs (W.set j x) := by
  apply Array.toList_inj.1
  unfold pcs uvals
  simp [Nat.add_comm 2 j, List.map_set]
theorem pcs_cell {w : World} {g j : Nat} {W : List Nat} (h : w.heap[g]? = some (.cells (pcs W) 45 (0, 0))) (hj : j < W.length) : w.cell? ⟨g, 2 + j, none⟩ = some (.int .u64 ((W.getD j 0 : Nat) : Int)) := by
  rw [cell_of_row _ _ _ _ _ _ h]
  unfold pcs
  simpa [Nat.add_comm 2 j] using uvals_get hj
set_option maxHeartbeats 2000000 in
theorem sput_any (g : Nat) (W : List Nat) (f : Nat → Bool) (hW : Wd W f) (a b : Nat) (hab : a ≤ b) (hb : b < 256) (w : World) (hbox : w.heap[g]? = some (.cells (pcs W) 45 (0, 0))) :
    Calls Try.prog 29 #[.pointer (some ⟨g, 2, none⟩), .int .u8 (a : Int), .int .u8 (b : Int)] w fun e w' => e = .returned (.tuple #[]) ∧ ∃ W', Wd W' (orF f a b) ∧ w'.heap[g]? = some (.cells (pcs W') 45 (0, 0)) ∧ Kept (fun k => k = g) w w' := by
  have HI := Lib.hid (And.intro hW hbox)
  have HAB := Lib.hid (And.intro hab hb)
  clear hW hbox
  go_enter Try.func29, Try.ntmps29
  go_wp2
  go_loopg [6] (b + 1 - a) (fun G s6 wr => ∃ i : Nat, i ≤ b + 1 ∧ a ≤ i ∧ G = b + 1 - i ∧ s6 = .int .i64 i ∧ ∃ V, Wd V (fun x => f x || decide (a ≤ x ∧ x < i)) ∧ wr.heap[g]? = some (.cells (pcs V) 45 (0, 0)) ∧ Kept (fun k => k = g) w wr)
  case atStart => exact ⟨a, by omega, Nat.le_refl _, rfl, rfl, W, by rw [show (fun x => f x || decide (a ≤ x ∧ x < a)) = f by funext x; rw [decide_eq_false (by omega), Bool.or_false]]; exact HI.out.1, HI.out.2, Kept.refl _ _⟩
  case round =>
    obtain ⟨i, hib, hai, rfl, rfl, V, hV, hbox, hk⟩ := hrel
    have HK := Lib.hid hk
    by_cases hd : i < b + 1
    · have hdi : (i : Int) ≤ (b : Int) := by omega
      have hdi' : decide (i ≤ b) = true := decide_eq_true (by omega)
      have hc := pcs_cell (j := i / 64) hbox (by rw [hV.len]; have := HAB.out; omega)
      have hfz := frozen_of_row wr g (2 + i / 64) _ _ hbox
      obtain ⟨x, hx⟩ : ∃ x, x = V.getD (i / 64) 0 := ⟨_, rfl⟩
      rw [← hx] at hc
      have HV := Lib.hid hV
      have HX := Lib.hid hx
      have HBX := Lib.hid hbox
      have wi : IntKind.i64.wrap ((i : Int) + 1) = ((i + 1 : Nat) : Int) := by rw [IntWalk.i64_in _ ⟨by omega, by omega⟩]; omega
      clear hV hx hk hbox
      go_upto_region 3 with fail
      go_region
      obtain ⟨y, hy⟩ : ∃ y, y = x ||| 2 ^ (i % 64) := ⟨_, rfl⟩
      have hor : bits .or .u64 (x : Int) (IntKind.u64.wrap (2 ^ (i % 64))) = (y : Int) := by
        have h2 : 2 ^ (i % 64) < 2 ^ 64 := Nat.pow_lt_pow_right (by omega) (by omega)
        have e : IntKind.u64.wrap (2 ^ (i % 64)) = ((2 ^ (i % 64) : Nat) : Int) := by
          have : (2 : Int) ^ (i % 64) = ((2 ^ (i % 64) : Nat) : Int) := by simp
          rw [IntKind.wrap_u64, this]
          clear this
          generalize 2 ^ (i % 64) = z at h2 ⊢
          omega
        rw [e, u64_or_nat _ _ (by rw [HX.out]; exact HV.out.getD_lt _) (by omega), hy]
      rw [hor]
      have HN : Hid (Wd (V.set (i / 64) y) (fun x => f x || decide (a ≤ x ∧ x < i + 1))) := Lib.hid (by
        have h := HV.out.put (c := i) (by have := HAB.out; omega)
        rw [← HX.out, ← hy] at h
        have e : orF (fun x => f x || decide (a ≤ x ∧ x < i)) i i = (fun x => f x || decide (a ≤ x ∧ x < i + 1)) := by
          funext z
          unfold orF
          rw [Bool.or_assoc, ← Bool.decide_or]
          congr 1
          apply decide_eq_decide.2
          omega
        rwa [e] at h)
      obtain ⟨wn, hwn⟩ : ∃ wn, wn = (wr.setCell ⟨g, 2 + i / 64, none⟩ (.int .u64 (y : Int))).drew := ⟨_, rfl⟩
      rw [← hwn]
      have HB : Hid (wn.heap[g]? = some (.cells (pcs (V.set (i / 64) y)) 45 (0, 0))) := Lib.hid (by
        rw [hwn, ← pcs_set]
        exact heap_setCell_same _ _ _ _ _ _ HBX.out)
      have HKN : Hid (Kept (fun k => k = g) w wn) := Lib.hid (by rw [hwn]; exact (HK.out.setCell (fun _ => rfl) _).drew)
      clear hwn hor hy hc hfz
      go_wp2
      go_roundg (b + 1 - (i + 1))
      case measure => omega
      case rel => exact ⟨i + 1, by omega, by omega, rfl, rfl, _, HN.out, HB.out, HKN.out⟩
    · have hdi : ¬ (i : Int) ≤ (b : Int) := by omega
      have hdi' : decide (i ≤ b) = false := decide_eq_false (by omega)
      have HF := Lib.hid (show Wd V (orF f a b) by
        have e : (fun x => f x || decide (a ≤ x ∧ x < i)) = orF f a b := by
          funext z
          unfold orF
          congr 1
          apply decide_eq_decide.2
          omega
        rwa [e] at hV)
      have HB := Lib.hid hbox
      clear hV hbox hk
      go_wp2
      go_end0
      exact ⟨rfl, V, HF.out, HB.out, HK.out⟩
end Go.Proofs.Ytjbjfdmdicfjfaa
