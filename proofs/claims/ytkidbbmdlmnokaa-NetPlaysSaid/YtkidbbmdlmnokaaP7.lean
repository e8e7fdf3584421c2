/- package pack's reader: Num; layer 2's awake. -/
import Derived.Test.YtkidbbmdlmnokaaP6
import Derived.Outline
namespace Go.Proofs.Ytkidbbmdlmnokaa
open Go.RowKit
attribute [local go_sem ↓] Go.wp_at_zero Go.wp_at_succ

theorem RdAt.setAt {T E : TypeId} {w : World} {B p : Nat} {v : Value} {l : List Int} {t t2 : Nat} {e : Int} (h : RdAt T E w B p v l t e) (ht : t2 ≤ l.length) : RdAt T E (w.setCell ⟨p, 1, none⟩ (.int .i64 t2)) B p v l t2 e := by
  refine ⟨h.base, ?_, ?_, h.apart, ht, h.byte⟩
  · have e := h.box
    simp [World.setCell, Array.getElem?_modify, e]
  · exact ((Kept.refl (fun k => k = p) w).setCell (p := ⟨p, 1, none⟩) (fun _ => rfl) _).owns h.owns (fun k e x => h.apart (by rw [e, x]))

theorem lookF_taken (l : List Int) (t : Nat) (ht : t ≤ l.length) : t + (lookF l t).2.1 ≤ l.length := by
  unfold lookF
  split
  · simpa using ht
  · split
    · simpa using ht
    · split
      · simpa using ht
      · simp only; omega

/-- What a reading of a number leaves. -/
def Read (T E : TypeId) (w : World) (B p : Nat) (v : Value) (l : List Int) (t : Nat) (r : Int × Nat × Int) (e : Ending) (w' : World) : Prop :=
  e = .returned (.int .u64 r.1) ∧ RdAt T E w' B p v l (t + r.2.1) r.2.2 ∧ Kept (fun k => k = p) w w'

set_option maxHeartbeats 400000 in
theorem rnum_any (B p : Nat) (v : Value) (l : List Int) (t : Nat) (w : World) (HR : RdAt 113 5 w B p v l t 0) (hl : l.length ≤ 100000000000) :
    Calls Try.prog 62 #[.pointer (some ⟨p, 0, none⟩)] w (Read 113 5 w B p v l t (lookF l t)) := by
  have htk := lookF_taken l t HR.taken
  go_enter Try.func62, Try.ntmps62
  go_wp2_with fail
  refine (look_any B p v l t w HR hl).mono ?_
  rintro e w' ⟨rfl, HR1, hk⟩
  generalize hr : lookF l t = r at *
  obtain ⟨x, n, e1⟩ := r
  have hc1 := HR1.c1
  have hf1 := HR1.free 1
  have m1 : IntKind.i64.wrap ((t : Int) + (n : Int)) = (t : Int) + (n : Int) := IntWalk.i64_in _ ⟨by omega, by simp only at htk; omega⟩
  have fin := Lib.hid (HR1.setAt htk)
  have HH := Lib.hid hr
  clear hr
  go_wp2
  go_ret
  refine ⟨rfl, ?_, hk.setCell (fun _ => rfl) _⟩
  have f := fin.out
  simp only [Int.natCast_add] at f
  exact f

/-- A slice that owns its bytes, as a text. -/
theorem run_str_own {P : Program} {w : World} {B : Nat} {v : Value} {l : List Int} {E : TypeId} (ho : w.ownsRow B E 1 v l.length (u8s l)) (src e dst : TypeId) (hs : P.underlying src = some (.slice e)) (he : P.underlying e = some (.int .u8)) (hd : P.underlying dst = some .string) :
    (convert src dst v).run P w = .ok (.string (strOfNums l)) w := by
  rcases ho.2 with ⟨rfl, h0⟩ | ⟨g, cap, cur, rfl, _⟩
  · obtain rfl : l = [] := List.eq_nil_of_length_eq_zero h0
    exact run_convert_bytes_nil w src e hs he 0 0 dst hd
  · refine run_convert_bytes_arg w src e hs he g 0 l.length cap l rfl (fun i hi => ?_) dst hd
    have := ho.cells (g := g) rfl i (.int .u8 (l.getD i 0)) (by simp [List.getD_eq_getElem?_getD, List.getElem?_eq_getElem hi])
    rw [addr_add] at this
    simpa using this

theorem awake2_bytes : ([] : List Int) ++ numB 128 ++ numB ((ByteArray.mk #[97]).size : Nat) ++ strB ⟨#[97]⟩ ++ numB (zigI (-1)) = [128, 128, 1, 97, 1] := by decide
theorem awake2_look : lookF [128, 127] 0 = (0, 0, 3) := by decide

theorem WrTo.below {T E : TypeId} {w w' : World} {B p : Nat} {v : Value} {l l' : List Int} (h : WrAt T E w B p v l) (k : WrTo T E w w' B p v l') : Kept (fun k => B ≤ k) w w' := by
  obtain ⟨_, _, _, k3⟩ := k
  refine k3.mono fun j _ hj => ?_
  rcases hj with rfl | hj
  · exact h.base
  · exact (ownsRow_lt h.owns hj).2

set_option maxHeartbeats 1000000 in
theorem awake2_any (w : World) :
    Calls Try.prog 45 #[] w fun e w' => e = .returned (.bool true) ∧ Kept (fun _ => False) w w' := by
  go_enter Try.func45, Try.ntmps45
  go_wp2_with fail
  refine (newWriter_any w).mono ?_
  rintro e w1 ⟨rfl, hw1⟩
  have H0 := newWriter_at w.heap.size w (Nat.le_refl _)
  rw [← hw1] at H0
  have K1 : Kept (fun k => w.heap.size ≤ k) w w1 := by rw [hw1]; exact (Kept.refl _ _).alloc _
  have B1 := K1.size
  clear hw1
  go_wp2_with fail
  refine (num_any w.heap.size w.heap.size _ _ 128 w1 H0 B1 (by omega) (by omega) (by simp)).mono ?_
  rintro e w2 ⟨rfl, ht2⟩
  obtain ⟨v2, H2, S2, b2⟩ := ht2.part
  go_wp2_with fail
  refine (text_any w.heap.size w.heap.size v2 _ ⟨#[97]⟩ w2 H2 (by omega) (by decide) (by simp [numB_length]; have := oth_le 128; omega)).mono ?_
  rintro e w3 ⟨rfl, ht3⟩
  obtain ⟨v3, H3, S3, b3⟩ := ht3.part
  go_wp2_with fail
  refine (int_any w.heap.size w.heap.size v3 _ (-1) w3 H3 (by omega) (by omega) (by omega) (by decide)).mono ?_
  rintro e w4 ⟨rfl, ht4⟩
  have T4 := b2.out _ _ (b3.out _ _ ht4)
  rw [awake2_bytes] at T4
  have K4 : Kept (fun k => w.heap.size ≤ k) w w4 := K1.trans (WrTo.below H0 T4)
  obtain ⟨v4, H4, S4, _⟩ := T4.part
  clear ht2 b2 ht3 b3 ht4 T4 H0 H2 H3
  go_wp2_with fail
  have hv : SliceAt (w4.alloc (.cells #[.int .u8 128, .int .u8 127] 5)) (.slice (some ⟨w4.heap.size, 0, none⟩) 2 2) (some ⟨w4.heap.size, 0, none⟩) 2 2 (u8s [128, 127]) := by
    refine ⟨rfl, rfl, (fun h => by cases h), fun a ha => ?_⟩
    cases ha
    exact World.news_of_block (cs := #[.int .u8 128, .int .u8 127]) (t := 5) (fr := (0, 0)) (heap_alloc_new w4 _)
  refine (newReader_any _ _ 2 [128, 127] _ hv (by decide) (by decide)).mono ?_
  rintro e w5 ⟨p5, v5, rfl, HR, K5⟩
  have K5' : Kept (fun k => w.heap.size ≤ k) w w5 := (K4.alloc _).trans (K5.mono (fun _ _ h => h.elim))
  have H5 : WrAt 110 5 w5 w.heap.size w.heap.size v4 [128, 128, 1, 97, 1] :=
    H4.kept (((Kept.refl (fun _ => False) w4).alloc _).trans K5) (fun x => x) (fun _ _ x => x)
  go_wp2_with fail
  refine (wbytes_any w.heap.size w.heap.size v4 _ w5 H5 (by decide)).mono ?_
  rintro e w6 ⟨v6, rfl, ho6, K6⟩
  have K6' := K5'.trans (K6.mono (S' := fun k => w.heap.size ≤ k) (fun _ _ h => h.elim))
  have HR6 := HR.kept K6 (fun x => x) (fun _ _ x => x)
  have hcv := run_str_own ho6 27 5 9 Try.underlying27 Try.underlying5 Try.underlying9
  rw [show strOfNums [128, 128, 1, 97, 1] = ⟨#[128, 128, 1, 97, 1]⟩ from rfl] at hcv
  go_wp2_with fail
  refine (rnum_any _ p5 v5 [128, 127] 0 w6 HR6 (by decide)).mono ?_
  rintro e w7 ⟨rfl, HR7, K7⟩
  rw [awake2_look] at HR7 ⊢
  have K7' := K6'.trans (K7.mono (S' := fun k => w.heap.size ≤ k) (fun k _ h => by have := HR6.base; simp at this; omega))
  go_wp2_with fail
  refine (err_any _ p5 v5 _ _ 3 w7 HR7).mono ?_
  rintro e w8 ⟨rfl, rfl⟩
  go_wp2
  go_ret
  exact ⟨rfl, K7'.mono (fun k h1 h2 => by omega)⟩
end Go.Proofs.Ytkidbbmdlmnokaa
