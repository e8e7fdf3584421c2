/- package symtab, layer 34: Below. -/
import Derived.Test.YtkidbbmdlmnokaaT6
namespace Go.Proofs.Ytkidbbmdlmnokaa
open Go.RowKit
attribute [local go_sem ↓] Go.wp_at_zero Go.wp_at_succ

/-- Is the text at a place not below another one? As the program compares. -/
def geS (a b : ByteArray) : Bool := !Op.bytesLess a.toList b.toList
def geAt (L : List ByteArray) (s : ByteArray) (i : Nat) : Bool := geS (L.getD i ByteArray.empty) s
set_option maxHeartbeats 2000000 in
theorem below1_any (tb q1 q2 : Nat) (L : List ByteArray) (s : ByteArray) (i : Nat) (w : World) (hT : TabAt w tb L) (hi : i < L.length)
    (h1 : w.cell? ⟨q1, 0, none⟩ = some (.pointer (some ⟨tb, 0, none⟩))) (h2 : w.cell? ⟨q2, 0, none⟩ = some (.string s)) :
    Calls Try.prog 82 #[.int .i64 (i : Int), .pointer (some ⟨q1, 0, none⟩), .pointer (some ⟨q2, 0, none⟩)] w fun e w' => e = .returned (.bool (geAt L s i)) ∧ Kept (fun _ => False) w w' := by
  obtain ⟨ao, cp, hb, hs, _⟩ := hT
  have c0 : w.cell? ⟨tb, 0, none⟩ = some (.slice ao L.length cp) := by rw [cell_of_row _ _ _ _ _ _ hb]; rfl
  have hg := List.getElem?_eq_getElem hi
  have HX : Hid (geAt L s i = geS L[i] s) := Lib.hid (by unfold geAt; rw [List.getD_eq_getElem?_getD, hg]; rfl)
  obtain ⟨x, hx⟩ : ∃ x, x = L[i] := ⟨_, rfl⟩
  rw [← hx] at hg HX
  obtain ⟨g, o, ha, hcell⟩ := hs.cell hg
  subst ha
  have hil : (i : Int) < (L.length : Int) := by omega
  have hi0 : (0 : Int) ≤ (i : Int) := by omega
  clear hb hs hg hx hi
  go_enter Try.func82, Try.ntmps82
  go_upto_region 1 with fail
  go_region
  go_wp2
  go_ret
  exact ⟨by rw [HX.out]; rfl, (Kept.refl _ _).drew⟩
theorem enter_below (w : World) (args : Array Value) : (callFunc 82 args).run Try.prog w = .ok (.enter 82 args) w := by
  have hb : (Try.f82).body.isSome = true := by kernel_rfl
  obtain ⟨c, hc⟩ := Option.isSome_iff_exists.1 hb
  have h1 : (Try.f82).name ≠ "runtime.NumGoroutine" := by
    have : ((Try.f82).name == "runtime.NumGoroutine") = false := by kernel_rfl
    simpa using this
  simp [callFunc, Try.func82, h1, hc]
set_option maxHeartbeats 2000000 in
theorem tbelow_any (tb : Nat) (L : List ByteArray) (s : ByteArray) (w : World) (hT : TabAt w tb L) (hl : L.length ≤ 1000000) :
    Calls Try.prog 42 #[.pointer (some ⟨tb, 0, none⟩), .string s] w fun e w' => ∃ z, e = .returned (.int .i64 ((z : Nat) : Int)) ∧ SearchTo L.length (geAt L s) z ∧ Kept (fun _ => False) w w' := by
  obtain ⟨w2, hw2⟩ : ∃ w2, w2 = (w.alloc (.cells #[.pointer (some ⟨tb, 0, none⟩)] 52)).alloc (.cells #[.string s] 9) := ⟨_, rfl⟩
  obtain ⟨q, hq⟩ : ∃ q, q = w.heap.size := ⟨_, rfl⟩
  have hk2 : Kept (fun _ => False) w w2 := by rw [hw2]; exact ((Kept.refl _ _).alloc _).alloc _
  have hT2 := hT.kept hk2
  have h1 : w2.cell? ⟨q, 0, none⟩ = some (.pointer (some ⟨tb, 0, none⟩)) := by
    rw [hw2, cell_of_row _ q 0 _ _ _ (by rw [hq, Below.heap_alloc _ _ _ (by simp)]; exact heap_alloc_new w _)]; rfl
  have h2 : w2.cell? ⟨q + 1, 0, none⟩ = some (.string s) := by
    have h := heap_alloc_new (w.alloc (.cells #[.pointer (some ⟨tb, 0, none⟩)] 52)) (.cells #[.string s] 9)
    rw [show (w.alloc (.cells #[.pointer (some ⟨tb, 0, none⟩)] 52)).heap.size = w.heap.size + 1 by simp, ← hq, ← hw2] at h
    rw [cell_of_row _ _ _ _ _ _ h]; rfl
  have T : NTeller w2 82 #[.pointer (some ⟨q, 0, none⟩), .pointer (some ⟨q + 1, 0, none⟩)] L.length (geAt L s) :=
    ⟨fun w' i hi k => below1_any tb q (q + 1) L s i w' (hT2.kept k) hi (k.cell h1 (fun x => x)) (k.cell h2 (fun x => x)), enter_below⟩
  have HS := Lib.hid (search_any L.length _ _ (geAt L s) w2 hl T)
  obtain ⟨ao, cp, hb, _, _⟩ := hT2
  have c0 : w2.cell? ⟨tb, 0, none⟩ = some (.slice ao L.length cp) := by rw [cell_of_row _ _ _ _ _ _ hb]; rfl
  have HW2 := Lib.hid hw2.symm
  have HK2 := Lib.hid hk2
  clear hT hw2 hk2 hb T hl
  go_enter Try.func42, Try.ntmps42
  go_upto_region 1 with fail
  rw [HW2.out, ← hq]
  clear hq
  go_wp2_with fail
  refine HS.out.mono ?_
  rintro e w3 ⟨z, rfl, hz, k3⟩
  have HZ := Lib.hid (And.intro hz (HK2.out.trans k3))
  clear hz k3
  go_wp2
  go_ret
  exact ⟨z, rfl, HZ.out.1, HZ.out.2⟩
end Go.Proofs.Ytkidbbmdlmnokaa
