/- package frame, layer 4: Wrap. -/
import Derived.Test.YtficodklidaheaaDoorF3
import Derived.Laws.BytesArg
import Derived.Deep.RegionHeld
namespace Go.Proofs.YtficodklidaheaaDoor
open Go.RowKit
attribute [local go_sem ↓] Go.wp_at_zero Go.wp_at_succ

theorem info_u8 : (Tryd.prog.info? 5).map (fun i => (i.zero, i.size, i.bytes)) = some (some (.int .u8 0), 1, 1) := by kernel_rfl
theorem b8_len (l : List Nat) : (b8 l).length = l.length := by simp [b8]
theorem b8_append (a b : List Nat) : b8 (a ++ b) = b8 a ++ b8 b := by simp [b8]
theorem b8_at (l : List Nat) (j : Nat) (h : j < l.length) : (b8 l)[j]? = some (.int .u8 ((l.getD j 0 : Nat) : Int)) := by
  simp [b8, List.getElem?_map, List.getElem?_eq_getElem h, List.getD_eq_getElem?_getD]
theorem b8_one (l : List Nat) : ∀ u ∈ b8 l, u.oneCell' = true := by
  intro u hu; obtain ⟨x, _, rfl⟩ := List.mem_map.1 hu; rfl
theorem Row8.nil {w : World} {c : Nat} {l : List Nat} {n : Nat} (h : Row8 w (.slice none n c) l) : l = [] := by
  obtain ⟨ao, c', hv, _, hc⟩ := h
  cases hv
  cases l with
  | nil => rfl
  | cons x r => obtain ⟨_, h, _⟩ := hc 0 (by simp); cases h
theorem Row8.src' {w : World} {v : Value} {l : List Nat} (h : Row8 w v l) : Src Tryd.prog 1 22 v l.length (b8 l) w := by
  have h0 := h
  obtain ⟨ao, c, rfl, hb, hc⟩ := h
  cases ao with
  | none =>
    obtain rfl := h0.nil
    exact Src.ofNil _ Tryd.underlying22 _
  | some a =>
    refine Src.ofSlice _ Tryd.underlying22 _ l.length c (b8 l) (by simp [b8]) (fun j u hu => ?_) (b8_one l)
    have hj : j < l.length := by have := (List.getElem?_eq_some_iff.1 hu).1; simpa [b8] using this
    obtain ⟨a', ha, hca⟩ := hc j hj
    cases ha
    rw [b8_at l j hj] at hu
    cases hu
    exact hca
theorem row8_own {w : World} {base n : Nat} {v : Value} {l : List Nat} (hb : ∀ x ∈ l, x < 256) (ho : w.ownsRow base 5 1 v n (b8 l)) : Row8 w v l := by
  have hn : n = l.length := by have := ho.1; rw [b8_len] at this; omega
  subst hn
  rcases ho.2 with ⟨rfl, h⟩ | ⟨g, cap, cur, rfl, hg1, hg2, hg3, hg4, hg5, hg6⟩
  · have : l = [] := List.eq_nil_of_length_eq_zero h
    subst this
    exact ⟨none, 0, rfl, by simp, fun j hj => absurd hj (by simp)⟩
  · refine ⟨some ⟨g, 0, none⟩, cap, rfl, hb, fun j hj => ⟨_, rfl, ho.cells rfl j _ (b8_at l j hj)⟩⟩
theorem Row8.lt {w : World} {v : Value} {l : List Nat} (h : Row8 w v l) : ∀ x ∈ l, x < 256 := by obtain ⟨_, _, _, hb, _⟩ := h; exact hb
theorem row8_new (w : World) (n c : Nat) (l : List Nat) (E : TypeId) (fr : Nat × Nat) (hn : n = w.heap.size) (hb : ∀ x ∈ l, x < 256) : Row8 (w.alloc (.cells (b8 l).toArray E fr)) (.slice (some ⟨n, 0, none⟩) l.length c) l := by
  refine ⟨some ⟨n, 0, none⟩, c, rfl, hb, fun j hj => ⟨_, rfl, ?_⟩⟩
  have e : (⟨n, 0, none⟩ : Addr).add j = ⟨n, j, none⟩ := by unfold Addr.add; split <;> simp_all
  rw [e, cell_of_row _ _ j _ E fr (by rw [hn]; exact heap_alloc_new _ _)]
  simpa using b8_at l j hj
theorem own_new (w : World) (n : Nat) (l : List Nat) (hm : l.length ≤ maxLen) (hn : n = w.heap.size) (m : Nat) (hme : m = l.length) : (w.alloc (.cells (b8 l).toArray 5)).ownsRow w.heap.size 5 1 (.slice (some ⟨n, 0, none⟩) m m) m (b8 l) := by
  subst hn
  subst hme
  refine ⟨by simp [b8], .inr ⟨w.heap.size, l.length, _, rfl, Nat.le_refl _, heap_alloc_new w _, Nat.le_refl _, hm, by simp [b8], ?_⟩⟩
  show List.take (l.length * 1) (b8 l) = b8 l
  rw [Nat.mul_one, ← b8_len l, List.take_length]
theorem fourL_lt (v : Nat) : ∀ x ∈ fourL v, x < 256 := by
  intro x hx
  simp [fourL] at hx
  rcases hx with rfl | rfl | rfl | rfl <;> omega
theorem fourL_len (v : Nat) : (fourL v).length = 4 := rfl

/-- A frame's head, its sum, and the frame. -/
def headL (l : List Nat) : List Nat := 165 :: fourL l.length
def sumL (l : List Nat) : Nat := crcMore (crcMore 0 (headL l)) l
def frameL (l : List Nat) : List Nat := headL l ++ fourL (sumL l) ++ l
theorem headL_len (l : List Nat) : (headL l).length = 5 := rfl
theorem frameL_len (l : List Nat) : (frameL l).length = 9 + l.length := by simp [frameL, headL, fourL]; omega
theorem headL_lt (l : List Nat) : ∀ x ∈ headL l, x < 256 := by
  intro x hx
  rcases List.mem_cons.1 hx with rfl | hx
  · omega
  · exact fourL_lt _ x hx
theorem frameL_lt (l : List Nat) (h : ∀ x ∈ l, x < 256) : ∀ x ∈ frameL l, x < 256 := by
  intro x hx
  rcases List.mem_append.1 hx with hx | hx
  · rcases List.mem_append.1 hx with hx | hx
    · exact headL_lt l x hx
    · exact fourL_lt _ x hx
  · exact h x hx
theorem sumL_eq (l : List Nat) : sumL l = crcMore 0 (headL l ++ l) := (crcMore_append 0 _ _ (by omega) (headL_lt l)).symm
theorem sumL_lt (l : List Nat) : sumL l < 4294967296 := crcMore_lt _ _

/-- What Wrap answers. -/
def Wrapped (w : World) (l : List Nat) (e : Ending) (w' : World) : Prop :=
  ∃ v, e = .returned (.tuple #[v, .int .i64 0]) ∧ w'.ownsRow w.heap.size 5 1 v (9 + l.length) (b8 (frameL l)) ∧ Kept (fun _ => False) w w'

set_option maxHeartbeats 1000000 in
theorem wrap_large (ao : Option Addr) (n c : Nat) (hl : 65536 < n) (w : World) :
    Calls Tryd.prog 19 #[.slice ao n c] w fun e w' => e = .returned (.tuple #[.slice none 0 0, .int .i64 4]) ∧ w = w' := by
  have c1 : decide ((65536 : Int) < (n : Int)) = true := decide_eq_true (by omega)
  go_enter Tryd.func19, Tryd.ntmps19
  go_wp2
  go_ret2
  exact ⟨rfl, rfl⟩

set_option maxHeartbeats 1000000 in
theorem wrap_any (v : Value) (l : List Nat) (hl : l.length ≤ 65536) (w : World) (HB : Row8 w v l) (HN : Nibs w) :
    Calls Tryd.prog 19 #[v] w (Wrapped w l) := by
  obtain ⟨i0, hi, hz0, hz1, hz2⟩ := info_parts info_u8
  have hb := HB.lt
  have hv := HB
  obtain ⟨ao, c, rfl, _, _⟩ := hv
  have c1 : decide ((65536 : Int) < (l.length : Int)) = false := decide_eq_false (by omega)
  have e1 : IntKind.u32.wrap (l.length : Int) = (l.length : Int) := by rw [IntKind.wrap_u32]; omega
  have HF := Lib.hid (four_any l.length (by omega))
  have HG := Lib.hid (four_any (sumL l) (sumL_lt l))
  have hS := crcMore_lt 0 (headL l)
  have hF1 : fourL l.length = fourL l.length := rfl
  have HSU : Hid (sumL l = crcMore (crcMore 0 (headL l)) l) := Lib.hid rfl
  obtain ⟨S0, hS0⟩ : ∃ x, x = crcMore 0 (headL l) := ⟨_, rfl⟩
  rw [← hS0] at hS HSU
  obtain ⟨S1, hS1⟩ : ∃ x, x = sumL l := ⟨_, rfl⟩
  rw [← hS1] at HG HSU
  have HE : Hid (frameL l = headL l ++ fourL S1 ++ l) := Lib.hid (by rw [hS1]; rfl)
  have HB' := Lib.hid HB
  have HN' := Lib.hid HN
  have HS0 := Lib.hid hS0
  have Hb := Lib.hid hb
  clear HB HN hS0 hS1 hb hF1
  go_enter Tryd.func19, Tryd.ntmps19
  go_wp2_with (first
    | (go_at_call 62; refine (HF.out _).mono ?_; rintro e w' ⟨rfl, rfl⟩)
    | (at_builtin; refine wpList_append_src _ rfl (.tmp 9) (.tmp 13) 22 22 rfl w.heap.size 5 i0 (.int .u8 0) 1 1 Tryd.underlying22 hi hz0 hz1 hz2 rfl (.slice (some ⟨w.heap.size, 0, none⟩) 1 1) 1 (b8 [165]) rfl ?c0 (.slice (some ⟨w.heap.size + 1, 0, none⟩) 4 4) 4 (b8 (fourL l.length)) ?cv ?cs ?c1 ?c2 ?c3 ?_))
  case c0 => exact ((Kept.refl (fun _ => False) _).alloc _).owns (own_new w w.heap.size [165] (by simp [maxLen]) rfl 1 rfl) (fun _ _ x => x)
  case cv => rfl
  case cs => exact (row8_new _ _ 4 (fourL l.length) 5 (0, 0) (by simp) (fourL_lt _)).src'
  case c1 => simp [maxLen]
  case c2 => omega
  case c3 => simp; omega
  intro v1 w1 hown hg _ _
  have K1 : Kept (fun _ => False) w w1 := (((Kept.refl _ w).alloc _).alloc _).grown hg (fun k e hlt => by simp [Value.ownBlock] at e; omega)
  have O1 : w1.ownsRow w.heap.size 5 1 v1 5 (b8 (headL l)) := hown
  have R1 := row8_own (headL_lt l) O1
  have D1 := crcOf_any v1 (headL l) (by rw [headL_len]; omega) w1 R1 (HN'.out.kept K1)
  rw [← HS0.out] at D1
  have D2 := more_any S0 _ l hS (by omega) w1 (HB'.out.kept K1) (HN'.out.kept K1)
  rw [← HSU.out] at D2
  have E1 := Lib.hid D1
  have E2 := Lib.hid D2
  have P1 := Lib.hid O1
  have Q1 := Lib.hid K1
  clear hown hg R1 D1 D2 O1 K1
  go_wp2_with (first
    | (go_at_call 62; refine (HG.out _).mono ?_; rintro e w' ⟨rfl, rfl⟩)
    | (go_at_call 59; refine E1.out.mono ?_; rintro e w' ⟨rfl, rfl⟩)
    | (go_at_call 58; refine E2.out.mono ?_; rintro e w' ⟨rfl, rfl⟩)
    | (at_builtin; refine wpList_append_src _ rfl (.tmp 19) (.tmp 21) 22 22 rfl w.heap.size 5 i0 (.int .u8 0) 1 1 Tryd.underlying22 hi hz0 hz1 hz2 rfl v1 5 (b8 (headL l)) rfl ?c0 (.slice (some ⟨w1.heap.size, 0, none⟩) 4 4) 4 (b8 (fourL S1)) ?cv ?cs ?c1 ?c2 ?c3 ?_))
  case c0 => exact ((Kept.refl (fun _ => False) _).alloc _).owns P1.out (fun _ _ x => x)
  case cv => rfl
  case cs => exact (row8_new _ _ 4 (fourL S1) 5 (0, 0) (by simp) (fourL_lt _)).src'
  case c1 => simp [maxLen]
  case c2 => omega
  case c3 => have := Q1.out.size; simp; omega
  intro v2 w2 hown hg _ hat
  have K2 : Kept (fun _ => False) w w2 := (Q1.out.alloc _).grown hg (fun k e hlt => by have := (ownsRow_lt P1.out e).2; omega)
  have O2 : w2.ownsRow w.heap.size 5 1 v2 9 (b8 (headL l ++ fourL S1)) := by rw [b8_append]; exact hown
  have P2 := Lib.hid O2
  have Q2 := Lib.hid K2
  clear hown hg hat O2 K2 E1 E2 P1
  go_wp2_with (at_builtin; refine wpList_append_src _ rfl (.tmp 23) (.tmp 24) 22 22 rfl w.heap.size 5 i0 (.int .u8 0) 1 1 Tryd.underlying22 hi hz0 hz1 hz2 rfl v2 9 (b8 (headL l ++ fourL S1)) rfl ?c0 (.slice ao l.length c) l.length (b8 l) ?cv ?cs ?c1 ?c2 ?c3 ?_)
  case c0 => exact P2.out
  case cv => rfl
  case cs => exact (HB'.out.kept Q2.out).src'
  case c1 => simp [maxLen]; omega
  case c2 => omega
  case c3 => have := Q2.out.size; simp; omega
  intro v3 w3 hown hg _ hat
  have HW : Wrapped w l (.returned (.tuple #[v3, .int .i64 0])) w3 := ⟨v3, rfl, by rw [HE.out, b8_append]; exact hown, Q2.out.grown hg (fun k e hlt => by have := (ownsRow_lt P2.out e).2; omega)⟩
  clear hown hg hat P2 Q2
  go_wp2
  go_ret2
  exact HW
end Go.Proofs.YtficodklidaheaaDoor
