/- Layer 34: texts that came in; the walk of SymtabBuilds. -/
import Derived.Test.YtkidbbmdlmnokaaTM
import Derived.SliceStrings
namespace Go.Proofs.Ytkidbbmdlmnokaa
open Go.RowKit
attribute [local go_sem ↓] Go.wp_at_zero Go.wp_at_succ

/-- A slice of texts that came in. -/
theorem strs_of {H : Type} {enc : TypeId × Value → H} {W : World} {sp : Nat} {a : Option Addr} {len cap : Nat} {d : DataW H} {p : List MemPlace}
    (h : DataW.Trod enc Try.prog W sp (fun _ => true) true 49 (.slice a len cap) d p) : ∃ L : List ByteArray, L.length = len ∧ StrsAt W (.slice a L.length cap) L ∧ len ≤ cap ∧ len ≤ 9223372036854775807 := by
  obtain ⟨fuel, hf⟩ := h
  have k1 : Try.prog.cellsOf 9 = 1 := by kernel_rfl
  rcases Go.ChangeShapes.open_strings Try.underlying49 Try.underlying9 k1 hf with ⟨hcs, _⟩ | ⟨x, l, c, ss, hcs, _, hl, hm, hz, _, hcell, _⟩
  · simp [Value.cells] at hcs
    obtain ⟨rfl, rfl, rfl⟩ := hcs
    exact ⟨[], rfl, ⟨none, 0, rfl, fun _ => rfl, fun a ha => by cases ha⟩, Nat.le_refl _, by omega⟩
  · simp [Value.cells] at hcs
    obtain ⟨rfl, rfl, rfl⟩ := hcs
    unfold maxLen at hm
    have hsl : (ss.take len).length = len := by rw [List.length_take]; split at hz <;> omega
    refine ⟨ss.take len, hsl, ?_, hl, by omega⟩
    refine ⟨some x, cap, by rw [List.length_map], (fun h => by cases h), fun a ha j u hu => ?_⟩
    cases ha
    rw [List.getElem?_map, List.getElem?_take] at hu
    split at hu
    · rename_i hj
      have hjs : j < ss.length := by rw [List.length_take] at hsl; omega
      rw [List.getElem?_eq_getElem hjs] at hu
      simp only [Option.map_some, Option.some.injEq] at hu
      rw [hcell j hjs, List.getD_eq_getElem?_getD, List.getElem?_eq_getElem hjs, ← hu]
      rfl
    · cases hu
theorem few_is {L : List ByteArray} (h : fewS L 60 = true) : L.length ≤ 60 ∧ ∀ s ∈ L, s.size ≤ 500 := by
  unfold fewS at h
  have := of_decide_eq_true h
  exact ⟨by omega, this.2⟩
set_option maxHeartbeats 4000000 in
theorem symtabBuilds_walk (a : Option Addr) (cap : Nat) (L : List ByteArray) (W : World) (hL : StrsAt W (.slice a L.length cap) L) (hl : L.length ≤ 9223372036854775807) :
    Calls Try.prog 6 #[.slice a L.length cap] W fun e w' => e = .returned (.bool true) ∧ Kept (fun _ => False) W w' := by
  have HA := Lib.hid (awake34_any W)
  have HF := Lib.hid (fun w (k : Kept (fun _ => False) W w) => few34_any a cap L 60 w (hL.kept k) hl (by omega))
  obtain ⟨fw, hfw⟩ : ∃ f, f = fewS L 60 := ⟨_, rfl⟩
  rw [← hfw] at HF
  have HL := Lib.hid hL
  have HFW := Lib.hid hfw
  clear hL hl hfw
  go_enter Try.func6, Try.ntmps6
  go_wp2_with fail
  refine HA.out.mono ?_
  rintro e w1 ⟨rfl, k1⟩
  have HK1 := Lib.hid k1
  clear k1
  go_wp2_with fail
  refine (HF.out w1 HK1.out).mono ?_
  rintro e w2 ⟨rfl, rfl⟩
  cases fw with
  | false =>
    go_wp2
    go_ret
    exact ⟨rfl, HK1.out⟩
  | true =>
    obtain ⟨h60, hsz⟩ := few_is HFW.out.symm
    have HB := Lib.hid (fun w (k : Kept (fun _ => False) W w) => build_any a cap L w (HL.out.kept k) (by omega) (fun s hs => by have := hsz s hs; omega))
    have HRB := Lib.hid (fun w (k : Kept (fun _ => False) W w) => rbuild_any a cap L w (HL.out.kept k) (by omega) (fun s hs => by have := hsz s hs; omega))
    have HO := Lib.hid (fun (h0 : (buildS L).1 = 0) (W' w : World) (v : Value) (h : w.ownsRow W'.heap.size 5 1 v (buildS L).2.length (u8s (buildS L).2)) => openBuilt_any h h0)
    have H60 := Lib.hid h60
    obtain ⟨R, hR⟩ : ∃ R, R = buildS L := ⟨_, rfl⟩
    rw [← hR] at HB HRB HO
    obtain ⟨E, bs⟩ := R
    clear h60 hsz hR
    go_wp2_with fail
    refine (HB.out w1 HK1.out).mono ?_
    rintro e w3 ⟨v3, rfl, o3, k3⟩
    have HO3 := Lib.hid o3
    have HK3 := Lib.hid (HK1.out.trans k3)
    clear o3 k3
    go_wp2_with fail
    refine (HRB.out w3 HK3.out).mono ?_
    rintro e w4 ⟨v4, rfl, o4, k4⟩
    have HO4 := Lib.hid (k4.owns HO3.out (fun _ _ x => x))
    have HK4 := Lib.hid (HK3.out.trans k4)
    have cv1 := run_str_own HO4.out 27 5 9 Try.underlying27 Try.underlying5 Try.underlying9
    have cv2 := run_str_own o4 27 5 9 Try.underlying27 Try.underlying5 Try.underlying9
    obtain ⟨x, hx⟩ : ∃ x, x = strOfNums bs := ⟨_, rfl⟩
    simp only at cv1 cv2
    rw [← hx] at cv1 cv2
    have qx : (x.toList != x.toList) = false := by simp
    clear o4 k4 hx
    by_cases he : E = 0
    · subst he
      go_upto_region 11 with fail
      clear cv1 cv2 qx
      go_wp2_with fail
      refine (HO.out (by trivial) _ _ _ HO4.out).mono ?_
      rintro e w5 ⟨tb, rfl, ht, k5⟩
      have HT := Lib.hid ht
      have HK5 := Lib.hid (HK4.out.trans k5)
      clear ht k5
      go_wp2_with fail
      refine (tlen_any tb L w5 HT.out).mono ?_
      rintro e w6 ⟨rfl, rfl⟩
      have q1 : ((L.length : Int) == (L.length : Int)) = true := by simp
      go_wp2_with fail
      refine (tall_any tb L w5 HT.out (by have := H60.out; omega)).mono ?_
      rintro e w7 ⟨v7, rfl, hm⟩
      obtain ⟨a7, c7, rfl⟩ := hm.slice
      rw [strs_length] at hm ⊢
      have HS := Lib.hid (same34_any a7 a c7 cap L L w7 hm.at_ (HL.out.kept (HK5.out.trans hm.kept)) (by have := H60.out; omega))
      rw [show sameS L L = true from decide_eq_true rfl] at HS
      have HK7 := Lib.hid (HK5.out.trans hm.kept)
      clear hm
      go_wp2_with fail
      refine HS.out.mono ?_
      rintro e w8 ⟨rfl, k8⟩
      have HK8 := Lib.hid (HK7.out.trans k8)
      clear k8
      go_wp2
      go_ret
      exact ⟨rfl, HK8.out⟩
    · have q2 : (E != (0 : Int)) = true := bneT he
      have q3 : (E != E) = false := by simp
      clear he
      go_wp2
      go_ret
      exact ⟨rfl, HK4.out⟩
end Go.Proofs.Ytkidbbmdlmnokaa
