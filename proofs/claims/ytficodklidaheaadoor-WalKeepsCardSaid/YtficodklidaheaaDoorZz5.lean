/- Texts put together: F2, F3, F4, F5. -/
import Derived.Test.YtficodklidaheaaDoorZz4
import Derived.Deep.QuietTactic
import Derived.BigQuiet
import Derived.Laws.BytesArg
import Derived.Deep.RegionHeld
/- package frame, layer 4: Size, four. -/
namespace Go.Proofs.YtficodklidaheaaDoor
open Go.RowKit
attribute [local go_sem ↓] Go.wp_at_zero Go.wp_at_succ

/-- A number's four bytes, the lowest first. -/
def fourL (v : Nat) : List Nat := [v % 256, v / 256 % 256, v / 65536 % 256, v / 16777216 % 256]
def b8 (l : List Nat) : List Value := l.map fun (n : Nat) => Value.int .u8 (n : Int)
def sizeN (n : Int) : Int := if n < 0 ∨ 65536 < n then 0 else 9 + n

set_option maxHeartbeats 1000000 in
theorem four_any (v : Nat) (_hv : v < 4294967296) (w : World) :
    Calls Tryd.prog 62 #[.int .u32 v] w fun e w' => e = .returned (.slice (some ⟨w.heap.size, 0, none⟩) 4 4) ∧ w' = w.alloc (.cells (b8 (fourL v)).toArray 5) := by
  have e1 : IntKind.u8.wrap (v : Int) = ((v % 256 : Nat) : Int) := by rw [IntKind.wrap_u8]; omega
  have e2 : IntKind.u8.wrap ((v : Int) / 256) = ((v / 256 % 256 : Nat) : Int) := by rw [IntKind.wrap_u8]; omega
  have e3 : IntKind.u8.wrap ((v : Int) / 65536) = ((v / 65536 % 256 : Nat) : Int) := by rw [IntKind.wrap_u8]; omega
  have e4 : IntKind.u8.wrap ((v : Int) / 16777216) = ((v / 16777216 % 256 : Nat) : Int) := by rw [IntKind.wrap_u8]; omega
  have HE : Hid (b8 (fourL v) = [.int .u8 ((v % 256 : Nat) : Int), .int .u8 ((v / 256 % 256 : Nat) : Int), .int .u8 ((v / 65536 % 256 : Nat) : Int), .int .u8 ((v / 16777216 % 256 : Nat) : Int)]) := Lib.hid rfl
  go_enter Tryd.func62, Tryd.ntmps62
  go_wp2
  go_ret
  exact ⟨rfl, by rw [HE.out]; rfl⟩

set_option maxHeartbeats 1000000 in
theorem size_any (n : Int) (h0 : -9223372036854775808 ≤ n) (h1 : n ≤ 9223372036854775807) (w : World) :
    Calls Tryd.prog 94 #[.int .i64 n] w fun e w' => e = .returned (.int .i64 (sizeN n)) ∧ w = w' := by
  have HS : Hid (sizeN n = if n < 0 ∨ 65536 < n then 0 else 9 + n) := Lib.hid rfl
  by_cases hn : n < 0
  · have c1 : decide (n < 0) = true := decide_eq_true hn
    go_enter Tryd.func94, Tryd.ntmps94
    go_wp2
    go_ret
    exact ⟨by rw [HS.out, if_pos (Or.inl hn)]; rfl, rfl⟩
  · by_cases hb : 65536 < n
    · have c1 : decide (n < 0) = false := decide_eq_false hn
      have c2 : decide (65536 < n) = true := decide_eq_true hb
      go_enter Tryd.func94, Tryd.ntmps94
      go_wp2
      go_ret
      exact ⟨by rw [HS.out, if_pos (Or.inr hb)]; rfl, rfl⟩
    · have c1 : decide (n < 0) = false := decide_eq_false hn
      have c2 : decide (65536 < n) = false := decide_eq_false hb
      have e1 : IntKind.i64.wrap (9 + n) = 9 + n := IntWalk.i64_in _ ⟨by omega, by omega⟩
      go_enter Tryd.func94, Tryd.ntmps94
      go_wp2
      go_ret
      exact ⟨by rw [HS.out, if_neg (by omega)]; rfl, rfl⟩
end Go.Proofs.YtficodklidaheaaDoor
namespace Go.Proofs.YtficodklidaheaaDoor
open Go.RowKit
attribute [local go_sem ↓] Go.wp_at_zero Go.wp_at_succ
/-- The number of four bytes, the lowest first. -/
def numL (l : List Nat) : Nat := l.getD 0 0 + 256 * l.getD 1 0 + 65536 * l.getD 2 0 + 16777216 * l.getD 3 0
theorem num_four (v : Nat) (hv : v < 4294967296) : numL (fourL v) = v := by
  simp [numL, fourL]; omega
theorem numL_lt (l : List Nat) (h : ∀ j, j < 4 → l.getD j 0 < 256) : numL l < 4294967296 := by
  have h0 := h 0 (by omega)
  have h1 := h 1 (by omega)
  have h2 := h 2 (by omega)
  have h3 := h 3 (by omega)
  unfold numL
  omega
end Go.Proofs.YtficodklidaheaaDoor
/- package frame, layer 4: number; Wrap of too much. -/
namespace Go.Proofs.YtficodklidaheaaDoor
open Go.RowKit
attribute [local go_sem ↓] Go.wp_at_zero Go.wp_at_succ

theorem or32_join (a b s : Nat) (ha : a < 2 ^ s) (hm : b % 2 ^ s = 0) (hb : b < 4294967296) (ha' : a < 4294967296) : bits .or .u32 (a : Int) (b : Int) = ((a + b : Nat) : Int) := by
  have h := u32_or_nat a b (by omega) (by omega)
  rw [Nat.or_comm, nat_join s b a hm ha, Nat.add_comm] at h
  exact h

set_option maxHeartbeats 1000000 in
theorem number_any (v : Value) (l : List Nat) (hl : l.length = 4) (w : World) (HB : Row8 w v l) :
    Calls Tryd.prog 57 #[v] w fun e w' => e = .returned (.int .u32 ((numL l : Nat) : Int)) ∧ ∃ q, w' = w.drewN q := by
  obtain ⟨ao, c, rfl, hb, hc⟩ := HB
  obtain ⟨a, rfl, h0⟩ := hc 0 (by omega)
  obtain ⟨_, e, h1⟩ := hc 1 (by omega)
  cases e
  obtain ⟨_, e, h2⟩ := hc 2 (by omega)
  cases e
  obtain ⟨_, e, h3⟩ := hc 3 (by omega)
  cases e
  have b0 := getD_lt hb (j := 0) (by omega)
  have b1 := getD_lt hb (j := 1) (by omega)
  have b2 := getD_lt hb (j := 2) (by omega)
  have b3 := getD_lt hb (j := 3) (by omega)
  have HL : Hid (numL l = l.getD 0 0 + 256 * l.getD 1 0 + 65536 * l.getD 2 0 + 16777216 * l.getD 3 0) := Lib.hid rfl
  obtain ⟨A, hA⟩ : ∃ A, A = l.getD 0 0 := ⟨_, rfl⟩
  obtain ⟨B, hB⟩ : ∃ B, B = l.getD 1 0 := ⟨_, rfl⟩
  obtain ⟨C, hC⟩ : ∃ C, C = l.getD 2 0 := ⟨_, rfl⟩
  obtain ⟨D, hD⟩ : ∃ D, D = l.getD 3 0 := ⟨_, rfl⟩
  rw [← hA] at h0 b0 HL
  rw [← hB] at h1 b1 HL
  rw [← hC] at h2 b2 HL
  rw [← hD] at h3 b3 HL
  rw [hl]
  simp [Addr.add] at h0 h1 h2 h3
  have w0 : IntKind.u32.wrap (A : Int) = (A : Int) := by rw [IntKind.wrap_u32]; omega
  have w1 : IntKind.u32.wrap (B : Int) = (B : Int) := by rw [IntKind.wrap_u32]; omega
  have w2 : IntKind.u32.wrap (C : Int) = (C : Int) := by rw [IntKind.wrap_u32]; omega
  have w3 : IntKind.u32.wrap (D : Int) = (D : Int) := by rw [IntKind.wrap_u32]; omega
  have s1 : IntKind.u32.wrap ((B : Int) * 256) = ((256 * B : Nat) : Int) := by rw [IntKind.wrap_u32]; omega
  have s2 : IntKind.u32.wrap ((C : Int) * 65536) = ((65536 * C : Nat) : Int) := by rw [IntKind.wrap_u32]; omega
  have s3 : IntKind.u32.wrap ((D : Int) * 16777216) = ((16777216 * D : Nat) : Int) := by rw [IntKind.wrap_u32]; omega
  have o1 := or32_join A (256 * B) 8 (by omega) (by omega) (by omega) (by omega)
  have o2 := or32_join (A + 256 * B) (65536 * C) 16 (by omega) (by omega) (by omega) (by omega)
  have o3 := or32_join (A + 256 * B + 65536 * C) (16777216 * D) 24 (by omega) (by omega) (by omega) (by omega)
  have OO : bits .or .u32 (bits .or .u32 (bits .or .u32 (A : Int) (256 * (B : Int))) (65536 * (C : Int))) (16777216 * (D : Int)) = ((numL l : Nat) : Int) := by
    rw [show (256 * (B : Int)) = ((256 * B : Nat) : Int) by simp, show (65536 * (C : Int)) = ((65536 * C : Nat) : Int) by simp, show (16777216 * (D : Int)) = ((16777216 * D : Nat) : Int) by simp, o1, o2, o3, ← HL.out]
  have HO := Lib.hid OO
  clear OO o1 o2 o3 hc hb hA hB hC hD hl b0 b1 b2 b3
  go_enter Tryd.func57, Tryd.ntmps57
  go_wp2
  go_quiet (fail)
  go_wp2
  go_ret
  exact ⟨by rw [← HO.out]; rfl, _, rfl⟩
end Go.Proofs.YtficodklidaheaaDoor
/- package frame, layer 4: Wrap. -/
namespace Go.Proofs.YtficodklidaheaaDoor
open Go.RowKit
attribute [local go_sem ↓] Go.wp_at_zero Go.wp_at_succ

theorem info_u8 : (Tryd.prog.info? 5).map (fun i => (i.zero, i.size, i.bytes)) = some (some (.int .u8 0), 1, 1) := by kernel_rfl
theorem b8_len (l : List Nat) : (b8 l).length = l.length := by simp [b8]
theorem b8_append (a b : List Nat) : b8 (a ++ b) = b8 a ++ b8 b := by simp [b8]
theorem b8_at (l : List Nat) (j : Nat) (h : j < l.length) : (b8 l)[j]? = some (.int .u8 ((l.getD j 0 : Nat) : Int)) := by
  simp [b8, List.getElem?_map, List.getElem?_eq_getElem h, List.getD_eq_getElem?_getD]
theorem b8_one (l : List Nat) : ∀ u ∈ b8 l, u.oneCell' = true := by
  intro u hu; obtain ⟨x, _, rfl⟩ := List.mem_map.1 hu; rfl
theorem Row8.nil {w : World} {c : Nat} {l : List Nat} {n : Nat} (h : Row8 w (.slice none n c) l) : l = [] := by
  obtain ⟨ao, c', hv, _, hc⟩ := h
  cases hv
  cases l with
  | nil => rfl
  | cons x r => obtain ⟨_, h, _⟩ := hc 0 (by simp); cases h
theorem Row8.src' {w : World} {v : Value} {l : List Nat} (h : Row8 w v l) : Src Tryd.prog 1 22 v l.length (b8 l) w := by
  have h0 := h
  obtain ⟨ao, c, rfl, hb, hc⟩ := h
  cases ao with
  | none =>
    obtain rfl := h0.nil
    exact Src.ofNil _ Tryd.underlying22 _
  | some a =>
    refine Src.ofSlice _ Tryd.underlying22 _ l.length c (b8 l) (by simp [b8]) (fun j u hu => ?_) (b8_one l)
    have hj : j < l.length := by have := (List.getElem?_eq_some_iff.1 hu).1; simpa [b8] using this
    obtain ⟨a', ha, hca⟩ := hc j hj
    cases ha
    rw [b8_at l j hj] at hu
    cases hu
    exact hca
theorem row8_own {w : World} {base n : Nat} {v : Value} {l : List Nat} (hb : ∀ x ∈ l, x < 256) (ho : w.ownsRow base 5 1 v n (b8 l)) : Row8 w v l := by
  have hn : n = l.length := by have := ho.1; rw [b8_len] at this; omega
  subst hn
  rcases ho.2 with ⟨rfl, h⟩ | ⟨g, cap, cur, rfl, hg1, hg2, hg3, hg4, hg5, hg6⟩
  · have : l = [] := List.eq_nil_of_length_eq_zero h
    subst this
    exact ⟨none, 0, rfl, by simp, fun j hj => absurd hj (by simp)⟩
  · refine ⟨some ⟨g, 0, none⟩, cap, rfl, hb, fun j hj => ⟨_, rfl, ho.cells rfl j _ (b8_at l j hj)⟩⟩
theorem Row8.lt {w : World} {v : Value} {l : List Nat} (h : Row8 w v l) : ∀ x ∈ l, x < 256 := by obtain ⟨_, _, _, hb, _⟩ := h; exact hb
theorem row8_new (w : World) (n c : Nat) (l : List Nat) (E : TypeId) (fr : Nat × Nat) (hn : n = w.heap.size) (hb : ∀ x ∈ l, x < 256) : Row8 (w.alloc (.cells (b8 l).toArray E fr)) (.slice (some ⟨n, 0, none⟩) l.length c) l := by
  refine ⟨some ⟨n, 0, none⟩, c, rfl, hb, fun j hj => ⟨_, rfl, ?_⟩⟩
  have e : (⟨n, 0, none⟩ : Addr).add j = ⟨n, j, none⟩ := by unfold Addr.add; split <;> simp_all
  rw [e, cell_of_row _ _ j _ E fr (by rw [hn]; exact heap_alloc_new _ _)]
  simpa using b8_at l j hj
theorem own_new (w : World) (n : Nat) (l : List Nat) (hm : l.length ≤ maxLen) (hn : n = w.heap.size) (m : Nat) (hme : m = l.length) : (w.alloc (.cells (b8 l).toArray 5)).ownsRow w.heap.size 5 1 (.slice (some ⟨n, 0, none⟩) m m) m (b8 l) := by
  subst hn
  subst hme
  refine ⟨by simp [b8], .inr ⟨w.heap.size, l.length, _, rfl, Nat.le_refl _, heap_alloc_new w _, Nat.le_refl _, hm, by simp [b8], ?_⟩⟩
  show List.take (l.length * 1) (b8 l) = b8 l
  rw [Nat.mul_one, ← b8_len l, List.take_length]
theorem fourL_lt (v : Nat) : ∀ x ∈ fourL v, x < 256 := by
  intro x hx
  simp [fourL] at hx
  rcases hx with rfl | rfl | rfl | rfl <;> omega
theorem fourL_len (v : Nat) : (fourL v).length = 4 := rfl

/-- A frame's head, its sum, and the frame. -/
def headL (l : List Nat) : List Nat := 165 :: fourL l.length
def sumL (l : List Nat) : Nat := crcMore (crcMore 0 (headL l)) l
def frameL (l : List Nat) : List Nat := headL l ++ fourL (sumL l) ++ l
theorem headL_len (l : List Nat) : (headL l).length = 5 := rfl
theorem frameL_len (l : List Nat) : (frameL l).length = 9 + l.length := by simp [frameL, headL, fourL]; omega
theorem headL_lt (l : List Nat) : ∀ x ∈ headL l, x < 256 := by
  intro x hx
  rcases List.mem_cons.1 hx with rfl | hx
  · omega
  · exact fourL_lt _ x hx
theorem frameL_lt (l : List Nat) (h : ∀ x ∈ l, x < 256) : ∀ x ∈ frameL l, x < 256 := by
  intro x hx
  rcases List.mem_append.1 hx with hx | hx
  · rcases List.mem_append.1 hx with hx | hx
    · exact headL_lt l x hx
    · exact fourL_lt _ x hx
  · exact h x hx
theorem sumL_eq (l : List Nat) : sumL l = crcMore 0 (headL l ++ l) := (crcMore_append 0 _ _ (by omega) (headL_lt l)).symm
theorem sumL_lt (l : List Nat) : sumL l < 4294967296 := crcMore_lt _ _

/-- What Wrap answers. -/
def Wrapped (w : World) (l : List Nat) (e : Ending) (w' : World) : Prop :=
  ∃ v, e = .returned (.tuple #[v, .int .i64 0]) ∧ w'.ownsRow w.heap.size 5 1 v (9 + l.length) (b8 (frameL l)) ∧ Kept (fun _ => False) w w'

set_option maxHeartbeats 1000000 in
theorem wrap_large (ao : Option Addr) (n c : Nat) (hl : 65536 < n) (w : World) :
    Calls Tryd.prog 19 #[.slice ao n c] w fun e w' => e = .returned (.tuple #[.slice none 0 0, .int .i64 4]) ∧ w = w' := by
  have c1 : decide ((65536 : Int) < (n : Int)) = true := decide_eq_true (by omega)
  go_enter Tryd.func19, Tryd.ntmps19
  go_wp2
  go_ret2
  exact ⟨rfl, rfl⟩

set_option maxHeartbeats 1000000 in
theorem wrap_any (v : Value) (l : List Nat) (hl : l.length ≤ 65536) (w : World) (HB : Row8 w v l) (HN : Nibs w) :
    Calls Tryd.prog 19 #[v] w (Wrapped w l) := by
  obtain ⟨i0, hi, hz0, hz1, hz2⟩ := info_parts info_u8
  have hb := HB.lt
  have hv := HB
  obtain ⟨ao, c, rfl, _, _⟩ := hv
  have c1 : decide ((65536 : Int) < (l.length : Int)) = false := decide_eq_false (by omega)
  have e1 : IntKind.u32.wrap (l.length : Int) = (l.length : Int) := by rw [IntKind.wrap_u32]; omega
  have HF := Lib.hid (four_any l.length (by omega))
  have HG := Lib.hid (four_any (sumL l) (sumL_lt l))
  have hS := crcMore_lt 0 (headL l)
  have hF1 : fourL l.length = fourL l.length := rfl
  have HSU : Hid (sumL l = crcMore (crcMore 0 (headL l)) l) := Lib.hid rfl
  obtain ⟨S0, hS0⟩ : ∃ x, x = crcMore 0 (headL l) := ⟨_, rfl⟩
  rw [← hS0] at hS HSU
  obtain ⟨S1, hS1⟩ : ∃ x, x = sumL l := ⟨_, rfl⟩
  rw [← hS1] at HG HSU
  have HE : Hid (frameL l = headL l ++ fourL S1 ++ l) := Lib.hid (by rw [hS1]; rfl)
  have HB' := Lib.hid HB
  have HN' := Lib.hid HN
  have HS0 := Lib.hid hS0
  have Hb := Lib.hid hb
  clear HB HN hS0 hS1 hb hF1
  go_enter Tryd.func19, Tryd.ntmps19
  go_wp2_with (first
    | (go_at_call 62; refine (HF.out _).mono ?_; rintro e w' ⟨rfl, rfl⟩)
    | (at_builtin; refine wpList_append_src _ rfl (.tmp 9) (.tmp 13) 22 22 rfl w.heap.size 5 i0 (.int .u8 0) 1 1 Tryd.underlying22 hi hz0 hz1 hz2 rfl (.slice (some ⟨w.heap.size, 0, none⟩) 1 1) 1 (b8 [165]) rfl ?c0 (.slice (some ⟨w.heap.size + 1, 0, none⟩) 4 4) 4 (b8 (fourL l.length)) ?cv ?cs ?c1 ?c2 ?c3 ?_))
  case c0 => exact ((Kept.refl (fun _ => False) _).alloc _).owns (own_new w w.heap.size [165] (by simp [maxLen]) rfl 1 rfl) (fun _ _ x => x)
  case cv => rfl
  case cs => exact (row8_new _ _ 4 (fourL l.length) 5 (0, 0) (by simp) (fourL_lt _)).src'
  case c1 => simp [maxLen]
  case c2 => omega
  case c3 => simp; omega
  intro v1 w1 hown hg _ _
  have K1 : Kept (fun _ => False) w w1 := (((Kept.refl _ w).alloc _).alloc _).grown hg (fun k e hlt => by simp [Value.ownBlock] at e; omega)
  have O1 : w1.ownsRow w.heap.size 5 1 v1 5 (b8 (headL l)) := hown
  have R1 := row8_own (headL_lt l) O1
  have D1 := crcOf_any v1 (headL l) (by rw [headL_len]; omega) w1 R1 (HN'.out.kept K1)
  rw [← HS0.out] at D1
  have D2 := more_any S0 _ l hS (by omega) w1 (HB'.out.kept K1) (HN'.out.kept K1)
  rw [← HSU.out] at D2
  have E1 := Lib.hid D1
  have E2 := Lib.hid D2
  have P1 := Lib.hid O1
  have Q1 := Lib.hid K1
  clear hown hg R1 D1 D2 O1 K1
  go_wp2_with (first
    | (go_at_call 62; refine (HG.out _).mono ?_; rintro e w' ⟨rfl, rfl⟩)
    | (go_at_call 59; refine E1.out.mono ?_; rintro e w' ⟨rfl, rfl⟩)
    | (go_at_call 58; refine E2.out.mono ?_; rintro e w' ⟨rfl, rfl⟩)
    | (at_builtin; refine wpList_append_src _ rfl (.tmp 19) (.tmp 21) 22 22 rfl w.heap.size 5 i0 (.int .u8 0) 1 1 Tryd.underlying22 hi hz0 hz1 hz2 rfl v1 5 (b8 (headL l)) rfl ?c0 (.slice (some ⟨w1.heap.size, 0, none⟩) 4 4) 4 (b8 (fourL S1)) ?cv ?cs ?c1 ?c2 ?c3 ?_))
  case c0 => exact ((Kept.refl (fun _ => False) _).alloc _).owns P1.out (fun _ _ x => x)
  case cv => rfl
  case cs => exact (row8_new _ _ 4 (fourL S1) 5 (0, 0) (by simp) (fourL_lt _)).src'
  case c1 => simp [maxLen]
  case c2 => omega
  case c3 => have := Q1.out.size; simp; omega
  intro v2 w2 hown hg _ hat
  have K2 : Kept (fun _ => False) w w2 := (Q1.out.alloc _).grown hg (fun k e hlt => by have := (ownsRow_lt P1.out e).2; omega)
  have O2 : w2.ownsRow w.heap.size 5 1 v2 9 (b8 (headL l ++ fourL S1)) := by rw [b8_append]; exact hown
  have P2 := Lib.hid O2
  have Q2 := Lib.hid K2
  clear hown hg hat O2 K2 E1 E2 P1
  go_wp2_with (at_builtin; refine wpList_append_src _ rfl (.tmp 23) (.tmp 24) 22 22 rfl w.heap.size 5 i0 (.int .u8 0) 1 1 Tryd.underlying22 hi hz0 hz1 hz2 rfl v2 9 (b8 (headL l ++ fourL S1)) rfl ?c0 (.slice ao l.length c) l.length (b8 l) ?cv ?cs ?c1 ?c2 ?c3 ?_)
  case c0 => exact P2.out
  case cv => rfl
  case cs => exact (HB'.out.kept Q2.out).src'
  case c1 => simp [maxLen]; omega
  case c2 => omega
  case c3 => have := Q2.out.size; simp; omega
  intro v3 w3 hown hg _ hat
  have HW : Wrapped w l (.returned (.tuple #[v3, .int .i64 0])) w3 := ⟨v3, rfl, by rw [HE.out, b8_append]; exact hown, Q2.out.grown hg (fun k e hlt => by have := (ownsRow_lt P2.out e).2; omega)⟩
  clear hown hg hat P2 Q2
  go_wp2
  go_ret2
  exact HW
end Go.Proofs.YtficodklidaheaaDoor
/- package frame, layer 4: First. -/
namespace Go.Proofs.YtficodklidaheaaDoor
open Go.RowKit
attribute [local go_sem ↓] Go.wp_at_zero Go.wp_at_succ

/-- A part of a row of bytes. -/
theorem Row8.cut {w : World} {ao : Option Addr} {c : Nat} {l : List Nat} (h : Row8 w (.slice ao l.length c) l) {lo hi : Nat} (h1 : lo ≤ hi) (h2 : hi ≤ l.length) (h3 : l.length ≤ c) :
    Row8 w (.slice (if c = lo then ao else ao.map (·.add lo)) (hi - lo) (c - lo)) ((l.drop lo).take (hi - lo)) := by
  obtain ⟨ao', c', e, hb, hc⟩ := h
  injection e with e1 _ e3
  subst e1; subst e3
  have hlen : ((l.drop lo).take (hi - lo)).length = hi - lo := by rw [List.length_take, List.length_drop]; omega
  refine ⟨if c = lo then ao else ao.map (·.add lo), c - lo, by rw [hlen], fun x hx => hb x (List.mem_of_mem_drop (List.mem_of_mem_take hx)), fun j hj => ?_⟩
  rw [hlen] at hj
  obtain ⟨a, rfl, hca⟩ := hc (lo + j) (by omega)
  refine ⟨a.add lo, by rw [if_neg (by omega)]; rfl, ?_⟩
  rw [add_add]
  have e : ((l.drop lo).take (hi - lo)).getD j 0 = l.getD (lo + j) 0 := by
    simp only [List.getD_eq_getElem?_getD, List.getElem?_take, if_pos hj, List.getElem?_drop]
  rw [e]; exact hca
theorem Row8.head {w : World} {ao : Option Addr} {c : Nat} {l : List Nat} (h : Row8 w (.slice ao l.length c) l) {hi : Nat} (h2 : hi ≤ l.length) : Row8 w (.slice ao hi c) (l.take hi) := by
  obtain ⟨ao', c', e, hb, hc⟩ := h
  injection e with e1 _ e3
  subst e1; subst e3
  have hlen : (l.take hi).length = hi := by rw [List.length_take]; omega
  refine ⟨ao, c, by rw [hlen], fun x hx => hb x (List.mem_of_mem_take hx), fun j hj => ?_⟩
  rw [hlen] at hj
  obtain ⟨a, rfl, hca⟩ := hc j (by omega)
  refine ⟨a, rfl, ?_⟩
  have e : (l.take hi).getD j 0 = l.getD j 0 := by
    simp only [List.getD_eq_getElem?_getD, List.getElem?_take, if_pos hj]
  rw [e]; exact hca

theorem own_weaken {w : World} {b1 b2 : Nat} {E : TypeId} {s : Nat} {v : Value} {n : Nat} {xs : List Value} (h : w.ownsRow b2 E s v n xs) (hb : b1 ≤ b2) : w.ownsRow b1 E s v n xs := by
  refine ⟨h.1, ?_⟩
  rcases h.2 with h0 | ⟨g, cap, cur, rfl, hg, rest⟩
  · exact .inl h0
  · exact .inr ⟨g, cap, cur, rfl, by omega, rest⟩
/-- A new row of the bytes l. -/
def Fresh8 (w : World) (l : List Nat) (e : Ending) (w' : World) : Prop :=
  ∃ v, e = .returned v ∧ w'.ownsRow w.heap.size 5 1 v l.length (b8 l) ∧ Kept (fun _ => False) w w'

set_option maxHeartbeats 400000 in
theorem clone8_any (v : Value) (l : List Nat) (w : World) (HB : Row8 w v l) (hl : l.length ≤ 100000000000) :
    Calls Tryd.prog 60 #[v] w (Fresh8 w l) := by
  obtain ⟨i0, hi, hz0, hz1, hz2⟩ := info_parts info_u8
  have q29 := fun (w : World) (a : Option Addr) (n c n' c' : Nat) => Lib.run_eql_slice_nil (P := Tryd.prog) w 22 5 a n c n' c' Tryd.underlying22
  have hv := HB
  obtain ⟨ao, c, rfl, hb, hc⟩ := hv
  cases ao with
  | none =>
    obtain rfl := HB.nil
    clear HB hc
    go_enter Tryd.func60, Tryd.ntmps60
    go_wp2
    go_ret
    exact ⟨_, rfl, World.ownsRow_nil _ _ _ _, Kept.refl _ _⟩
  | some a =>
    have hs := (HB.kept (((Kept.refl (fun _ => False) w).alloc (.cells #[] 5)))).src'
    have hown0 : (w.alloc (.cells #[] 5)).ownsRow w.heap.size 5 1 (.slice (some ⟨w.heap.size, 0, none⟩) 0 0) 0 [] := own_new w w.heap.size [] (by simp [maxLen]) rfl 0 rfl
    clear HB hc
    go_enter Tryd.func60, Tryd.ntmps60
    go_wp2_with (at_builtin; refine wpList_append_src _ rfl (.tmp 5) (.tmp 6) 22 22 rfl w.heap.size 5 i0 (.int .u8 0) 1 1 Tryd.underlying22 hi hz0 hz1 hz2 rfl (.slice (some ⟨w.heap.size, 0, none⟩) 0 0) 0 [] rfl hown0 (.slice (some a) l.length c) l.length (b8 l) rfl hs ?c1 ?c2 ?c3 ?_)
    case c1 => unfold maxLen; omega
    case c2 => omega
    case c3 => first | omega | (simp; try omega)
    · intro v' w1 hown hg _ hat
      have hk : Kept (fun _ => False) w w1 := ((Kept.refl _ w).alloc _).grown hg (fun k hk hlt => by simp [Value.ownBlock] at hk; omega)
      have hf : Fresh8 w l (.returned v') w1 := ⟨v', rfl, by simpa using hown, hk⟩
      clear hown hg hat hs hown0
      go_wp2
      go_ret
      exact hf

/-- The length that a frame tells; its payload; the error, by number. -/
def sizeL (l : List Nat) : Nat := numL ((l.drop 1).take 4)
def payL (l : List Nat) : List Nat := (l.drop 9).take (sizeL l)
def wantL (l : List Nat) : Nat := numL ((l.drop 5).take 4)
def firstE (l : List Nat) : Nat :=
  if l.length = 0 then 2 else if l.getD 0 0 ≠ 165 then 3 else if l.length < 9 then 2 else if 65536 < sizeL l then 4 else if l.length < 9 + sizeL l then 2 else
  if crcMore (crcMore 0 (l.take 5)) (payL l) ≠ wantL l then 5 else 0

/-- What First answers. -/
def Firsted (w : World) (l : List Nat) (e : Ending) (w' : World) : Prop :=
  if firstE l = 0 then ∃ v, e = .returned (.tuple #[v, .int .i64 ((9 + sizeL l : Nat) : Int), .int .i64 0]) ∧ w'.ownsRow w.heap.size 5 1 v (sizeL l) (b8 (payL l)) ∧ Kept (fun _ => False) w w'
  else e = .returned (.tuple #[.slice none 0 0, .int .i64 0, .int .i64 ((firstE l : Nat) : Int)]) ∧ Kept (fun _ => False) w w'
theorem Firsted.bad {w w' : World} {l : List Nat} {n : Nat} (hn : firstE l = n) (h0 : n ≠ 0) (hk : Kept (fun _ => False) w w') : Firsted w l (.returned (.tuple #[.slice none 0 0, .int .i64 0, .int .i64 (n : Int)])) w' := by
  unfold Firsted; rw [if_neg (by omega), hn]; exact ⟨rfl, hk⟩

set_option maxHeartbeats 2000000 in
theorem first_any (ao : Option Addr) (c : Nat) (l : List Nat) (hl : l.length ≤ 1000000000) (hcap : l.length ≤ c) (w : World) (HB : Row8 w (.slice ao l.length c) l) (HN : Nibs w) :
    Calls Tryd.prog 13 #[.slice ao l.length c] w (Firsted w l) := by
  obtain ⟨i0, hi, hz0, hz1, hz2⟩ := info_parts info_u8
  have hb := HB.lt
  by_cases h0 : l.length = 0
  · have HE := Lib.hid (Firsted.bad (w := w) (show firstE l = 2 by unfold firstE; rw [if_pos h0]) (by omega) (Kept.refl _ w))
    rw [h0]
    clear HB HN hb
    go_enter Tryd.func13, Tryd.ntmps13
    go_wp2
    go_ret3
    exact HE.out
  obtain ⟨a, rfl, hc0⟩ : ∃ a, ao = some a ∧ w.cell? a = some (.int .u8 ((l.getD 0 0 : Nat) : Int)) := by
    obtain ⟨ao', c', e, _, hc⟩ := HB
    cases e
    obtain ⟨a, rfl, h⟩ := hc 0 (by omega)
    rw [add_zero'] at h
    exact ⟨a, rfl, h⟩
  have p0 : (0 : Int) < (l.length : Int) := by omega
  have q0 : ((l.length : Int) == 0) = false := beq_eq_false_iff_ne.2 (by omega)
  obtain ⟨X, hX⟩ : ∃ X, X = l.getD 0 0 := ⟨_, rfl⟩
  rw [← hX] at hc0
  have HX := Lib.hid hX
  clear hX
  by_cases h1 : X ≠ 165
  · have HE := Lib.hid (Firsted.bad (w := w) (show firstE l = 3 by unfold firstE; rw [if_neg h0, ← HX.out, if_pos h1]) (by omega) (Kept.refl _ w))
    have q1 : ((X : Int) != 165) = true := by simp; omega
    clear HB HN hb h0 hcap
    go_enter Tryd.func13, Tryd.ntmps13
    go_wp2
    go_ret3
    exact HE.out
  have q1 : ((X : Int) != 165) = false := by simp; omega
  by_cases h2 : l.length < 9
  · have HE := Lib.hid (Firsted.bad (w := w) (show firstE l = 2 by unfold firstE; rw [if_neg h0, ← HX.out, if_neg h1, if_pos h2]) (by omega) (Kept.refl _ w))
    have q2 : decide ((l.length : Int) < 9) = true := decide_eq_true (by omega)
    clear HB HN hb h0 hcap
    go_enter Tryd.func13, Tryd.ntmps13
    go_wp2
    go_ret3
    exact HE.out
  have q2 : decide ((l.length : Int) < 9) = false := decide_eq_false (by omega)
  have R1 := HB.cut (lo := 1) (hi := 5) (by omega) (by omega) hcap
  obtain ⟨A1, hA1⟩ : ∃ A1, A1 = (if c = 1 then some a else (some a).map (·.add 1)) := ⟨_, rfl⟩
  obtain ⟨k1, hk1⟩ : ∃ k1, k1 = c - 1 := ⟨_, rfl⟩
  have s1 : ∀ w, (Instr.slice 22 (.slice (some a) l.length c) (some (.int .i64 1)) (some (.int .i64 5)) none).run Tryd.prog w = .ok (.slice A1 4 k1) w := fun w => by
    rw [hA1, hk1]; exact run_cut Tryd.underlying22 hi hz1 (some a) l.length c 1 5 (by omega) (by omega) w
  have s2 : ∀ w, (Instr.sliceAt 22 (.slice (some a) l.length c) (some (.int .i64 1)) (some (.int .i64 5)) none).run Tryd.prog w = .ok (.slice A1 4 k1) w := fun w => by
    rw [hA1, hk1]; exact run_cutAt Tryd.underlying22 hi hz1 (some a) l.length c 1 5 (by omega) (by omega) w
  rw [← hA1, ← hk1] at R1
  simp only [Nat.reduceSub] at R1
  clear hA1 hk1
  have N1 := number_any _ _ (by rw [List.length_take, List.length_drop]; omega) w R1
  obtain ⟨Z, hZ⟩ : ∃ Z, Z = sizeL l := ⟨_, rfl⟩
  rw [show numL ((l.drop 1).take 4) = Z from hZ.symm] at N1
  have HZ := Lib.hid hZ
  clear hZ
  have M1 := Lib.hid N1
  clear N1 R1
  by_cases h3 : 65536 < Z
  · have HE : Hid (∀ w', Kept (fun _ => False) w w' → Firsted w l (.returned (.tuple #[.slice none 0 0, .int .i64 0, .int .i64 4])) w') := Lib.hid fun w' hk => Firsted.bad (n := 4) (by unfold firstE; rw [if_neg h0, ← HX.out, if_neg h1, if_neg h2, ← HZ.out, if_pos h3]) (by omega) hk
    have q3 : decide ((65536 : Int) < (Z : Int)) = true := decide_eq_true (by omega)
    clear HB HN hb h0 hcap
    go_enter Tryd.func13, Tryd.ntmps13
    go_wp2_with (go_at_call 57; refine M1.out.mono ?_; rintro e w' ⟨rfl, q, rfl⟩)
    go_ret3
    exact HE.out _ ((Kept.refl _ w).drewN q)
  have q3 : decide ((65536 : Int) < (Z : Int)) = false := decide_eq_false (by omega)
  have e1 : IntKind.i64.wrap (Z : Int) = (Z : Int) := IntWalk.i64_in _ ⟨by omega, by omega⟩
  have e2 : IntKind.i64.wrap (9 + (Z : Int)) = ((9 + Z : Nat) : Int) := by rw [IntWalk.i64_in _ ⟨by omega, by omega⟩]; omega
  obtain ⟨E9, hE9⟩ : ∃ E9, E9 = 9 + Z := ⟨_, rfl⟩
  rw [← hE9] at e2
  by_cases h4 : l.length < E9
  · have HE : Hid (∀ w', Kept (fun _ => False) w w' → Firsted w l (.returned (.tuple #[.slice none 0 0, .int .i64 0, .int .i64 2])) w') := Lib.hid fun w' hk => Firsted.bad (n := 2) (by unfold firstE; rw [if_neg h0, ← HX.out, if_neg h1, if_neg h2, ← HZ.out, if_neg h3, if_pos (by omega)]) (by omega) hk
    have q4 : decide ((l.length : Int) < (E9 : Int)) = true := decide_eq_true (by omega)
    clear HB HN hb h0 hcap hE9
    go_enter Tryd.func13, Tryd.ntmps13
    go_wp2_with (go_at_call 57; refine M1.out.mono ?_; rintro e w' ⟨rfl, q, rfl⟩)
    go_ret3
    exact HE.out _ ((Kept.refl _ w).drewN q)
  have q4 : decide ((l.length : Int) < (E9 : Int)) = false := decide_eq_false (by omega)
  have R3 : ∀ w1, Kept (fun _ => False) w w1 → Row8 w1 _ _ := fun w1 h => (HB.head (hi := 5) (by omega)).kept h
  have R5 : ∀ w1, Kept (fun _ => False) w w1 → Row8 w1 _ _ := fun w1 h => (HB.cut (lo := 9) (hi := E9) (by omega) (by omega) hcap).kept h
  have R7 : ∀ w1, Kept (fun _ => False) w w1 → Row8 w1 _ _ := fun w1 h => (HB.cut (lo := 5) (hi := 9) (by omega) (by omega) hcap).kept h
  obtain ⟨A5, hA5⟩ : ∃ A5, A5 = (if c = 9 then some a else (some a).map (·.add 9)) := ⟨_, rfl⟩
  obtain ⟨k5, hk5⟩ : ∃ k5, k5 = c - 9 := ⟨_, rfl⟩
  obtain ⟨A7, hA7⟩ : ∃ A7, A7 = (if c = 5 then some a else (some a).map (·.add 5)) := ⟨_, rfl⟩
  obtain ⟨k7, hk7⟩ : ∃ k7, k7 = c - 5 := ⟨_, rfl⟩
  have hZ9 : E9 - 9 = Z := by omega
  have s3 : ∀ w, (Instr.slice 22 (.slice (some a) l.length c) none (some (.int .i64 5)) none).run Tryd.prog w = .ok (.slice (some a) 5 c) w := fun w =>
    run_cutH Tryd.underlying22 hi hz1 (some a) l.length c 5 (by omega) w
  have s4 : ∀ w, (Instr.sliceAt 22 (.slice (some a) l.length c) none (some (.int .i64 5)) none).run Tryd.prog w = .ok (.slice (some a) 5 c) w := fun w =>
    run_cutHAt Tryd.underlying22 hi hz1 (some a) l.length c 5 (by omega) w
  have s5 : ∀ w, (Instr.slice 22 (.slice (some a) l.length c) (some (.int .i64 9)) (some (.int .i64 (E9 : Int))) none).run Tryd.prog w = .ok (.slice A5 Z k5) w := fun w => by
    rw [hA5, hk5, ← hZ9]; exact run_cut Tryd.underlying22 hi hz1 (some a) l.length c 9 E9 (by omega) (by omega) w
  have s6 : ∀ w, (Instr.sliceAt 22 (.slice (some a) l.length c) (some (.int .i64 9)) (some (.int .i64 (E9 : Int))) none).run Tryd.prog w = .ok (.slice A5 Z k5) w := fun w => by
    rw [hA5, hk5, ← hZ9]; exact run_cutAt Tryd.underlying22 hi hz1 (some a) l.length c 9 E9 (by omega) (by omega) w
  have s7 : ∀ w, (Instr.slice 22 (.slice (some a) l.length c) (some (.int .i64 5)) (some (.int .i64 9)) none).run Tryd.prog w = .ok (.slice A7 4 k7) w := fun w => by
    rw [hA7, hk7]; exact run_cut Tryd.underlying22 hi hz1 (some a) l.length c 5 9 (by omega) (by omega) w
  have s8 : ∀ w, (Instr.sliceAt 22 (.slice (some a) l.length c) (some (.int .i64 5)) (some (.int .i64 9)) none).run Tryd.prog w = .ok (.slice A7 4 k7) w := fun w => by
    rw [hA7, hk7]; exact run_cutAt Tryd.underlying22 hi hz1 (some a) l.length c 5 9 (by omega) (by omega) w
  rw [← hA5, ← hk5, hZ9] at R5
  rw [← hA7, ← hk7] at R7
  simp only [Nat.reduceSub] at R7
  rw [show (l.drop 9).take Z = payL l by rw [HZ.out]; rfl] at R5
  have hpl : (payL l).length = Z := by unfold payL; rw [← HZ.out, List.length_take, List.length_drop]; omega
  clear hA5 hk5 hA7 hk7
  have hS := crcMore_lt 0 (l.take 5)
  have D1 := fun w1 h n => (crcOf_any _ (l.take 5) (by rw [List.length_take]; omega) (World.drewN w1 n) (R3 _ (Kept.drewN h n)) (HN.kept (Kept.drewN h n))).mono fun e w' h => And.intro h.1 h.2.symm
  have D2 := fun w1 h n => (more_any (crcMore 0 (l.take 5)) _ (payL l) hS (by omega) (World.drewN w1 n) (R5 _ (Kept.drewN h n)) (HN.kept (Kept.drewN h n))).mono fun e w' h => And.intro h.1 h.2.symm
  have D3 := fun w1 h n => number_any _ _ (by rw [List.length_take, List.length_drop]; omega) (World.drewN w1 n) (R7 _ (Kept.drewN h n))
  obtain ⟨S0, hS0⟩ : ∃ x, x = crcMore 0 (l.take 5) := ⟨_, rfl⟩
  obtain ⟨S1, hS1⟩ : ∃ x, x = crcMore S0 (payL l) := ⟨_, rfl⟩
  obtain ⟨S2, hS2⟩ : ∃ x, x = wantL l := ⟨_, rfl⟩
  rw [← hS0] at D1 D2
  rw [← hS1] at D2
  rw [show numL ((l.drop 5).take 4) = S2 from hS2.symm] at D3
  have M3 := Lib.hid D1
  have M5 := Lib.hid D2
  have M7 := Lib.hid D3
  clear D1 D2 D3 R3 R7
  by_cases h5 : S1 ≠ S2
  · have HE : Hid (∀ w', Kept (fun _ => False) w w' → Firsted w l (.returned (.tuple #[.slice none 0 0, .int .i64 0, .int .i64 5])) w') := Lib.hid fun w' hk => Firsted.bad (n := 5) (by unfold firstE; rw [if_neg h0, ← HX.out, if_neg h1, if_neg h2, ← HZ.out, if_neg h3, if_neg (by omega), ← hS0, ← hS1, ← hS2, if_pos h5]) (by omega) hk
    have q5 : ((S1 : Int) != (S2 : Int)) = true := by simp; omega
    clear HB HN hb h0 hcap hE9 hS0 hS1 hS2 hpl hZ9 hl
    go_enter Tryd.func13, Tryd.ntmps13
    go_wp2_with (go_at_call 57; refine M1.out.mono ?_; rintro e w1 ⟨rfl, q, hq⟩; have HK : Hid (Kept (fun _ => False) w w1) := Lib.hid (hq ▸ (Kept.refl _ w).drewN q); clear hq)
    go_quiet (first
      | (go_at_call 59; refine Calls.quiet_of_same (M3.out _ HK.out _))
      | (go_at_call 58; refine Calls.quiet_of_same (M5.out _ HK.out _))
      | (go_at_call 57; refine Calls.quiet_of (M7.out _ HK.out _)))
    go_wp2
    go_ret3
    exact HE.out _ (HK.out.drewN _)
  have q5 : ((S1 : Int) != (S2 : Int)) = false := by simp; omega
  have HE : Hid (∀ v w', w'.ownsRow w.heap.size 5 1 v Z (b8 (payL l)) → Kept (fun _ => False) w w' → Firsted w l (.returned (.tuple #[v, .int .i64 E9, .int .i64 0])) w') := Lib.hid fun v w' ho hk => by
    unfold Firsted
    rw [if_pos (by unfold firstE; rw [if_neg h0, ← HX.out, if_neg h1, if_neg h2, ← HZ.out, if_neg h3, if_neg (by omega), ← hS0, ← hS1, ← hS2, if_neg h5])]
    exact ⟨v, by rw [hE9, HZ.out], HZ.out ▸ ho, hk⟩
  have R6 := Lib.hid fun w1 h n => clone8_any _ (payL l) (World.drewN w1 n) (R5 _ (Kept.drewN h n)) (by omega)
  have hpl' := Lib.hid hpl
  clear HB HN hb h0 hcap hE9 hS0 hS1 hS2 hpl hZ9 hl R5
  go_enter Tryd.func13, Tryd.ntmps13
  go_wp2_with (go_at_call 57; refine M1.out.mono ?_; rintro e w1 ⟨rfl, q, hq⟩; have HK : Hid (Kept (fun _ => False) w w1) := Lib.hid (hq ▸ (Kept.refl _ w).drewN q); clear hq)
  go_quiet (first
    | (go_at_call 59; refine Calls.quiet_of_same (M3.out _ HK.out _))
    | (go_at_call 58; refine Calls.quiet_of_same (M5.out _ HK.out _))
    | (go_at_call 57; refine Calls.quiet_of (M7.out _ HK.out _)))
  have R7 := Lib.hid (R6.out _ HK.out nq)
  have HK2 := Lib.hid (HK.out.drewN nq)
  go_wp2_with (go_at_call 60; refine R7.out.mono ?_; rintro e w' ⟨v', rfl, ho, hk⟩; have HO := Lib.hid ho; have HJ := Lib.hid hk; clear ho hk)
  go_ret3
  refine HE.out _ _ ?_ (HK2.out.trans HJ.out)
  have := HO.out
  rw [hpl'.out] at this
  exact own_weaken this HK2.out.size
end Go.Proofs.YtficodklidaheaaDoor
