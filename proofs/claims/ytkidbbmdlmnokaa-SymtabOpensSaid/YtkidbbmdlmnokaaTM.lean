/- Layer 34 is awake; a table that was built is opened. -/
import Derived.Test.YtkidbbmdlmnokaaTL
import Derived.Test.YtkidbbmdlmnokaaTA
import Derived.Test.YtkidbbmdlmnokaaTD
namespace Go.Proofs.Ytkidbbmdlmnokaa
open Go.RowKit
attribute [local go_sem ↓] Go.wp_at_zero Go.wp_at_succ

theorem recB_byte (i : Nat) (a s : ByteArray) (hs : s.size ≤ 400) : ∀ x ∈ recB i a s, 0 ≤ x ∧ x < 256 := by
  have h1 := shr_le i a s
  intro x hx
  unfold recB at hx
  simp only [List.mem_append] at hx
  rcases hx with (hx | hx) | hx
  · exact numB_byte _ (by omega) (by omega) x hx
  · exact numB_byte _ (by omega) (by rw [size_from]; omega) x hx
  · exact strB_byte _ x hx
theorem bldL_byte : ∀ (L : List ByteArray) (i : Nat) (a : ByteArray), (∀ x ∈ (bldL i a L).2, 0 ≤ x ∧ x < 256) ∧ (bldL i a L).2.length ≤ 418 * L.length
  | [], _, _ => ⟨by simp [bldL], by simp [bldL]⟩
  | s :: t, i, a => by
    obtain ⟨h1, h2⟩ := bldL_byte t (i + 1) s
    unfold bldL
    split
    · exact ⟨by simp, by simp⟩
    · rename_i hs
      split
      · exact ⟨by simp, by simp⟩
      · split
        · exact ⟨by simp, by simp⟩
        · have h3 := recB_byte i a s (by omega)
          have h4 := recB_len i a s (by omega)
          refine ⟨fun x hx => ?_, by simp only [List.length_append, List.length_cons]; omega⟩
          rcases List.mem_append.1 hx with hx | hx
          · exact h3 x hx
          · exact h1 x hx
theorem buildS_byte (L : List ByteArray) : (∀ x ∈ (buildS L).2, 0 ≤ x ∧ x < 256) ∧ (buildS L).2.length ≤ 2000000 := by
  unfold buildS
  split
  · exact ⟨by simp, by simp⟩
  · rename_i h
    obtain ⟨h1, h2⟩ := bldL_byte L 0 ByteArray.empty
    unfold preB
    split
    · exact ⟨by simp, by simp⟩
    · refine ⟨fun x hx => ?_, ?_⟩
      · rcases List.mem_append.1 hx with hx | hx
        · exact numB_byte _ (by omega) (by omega) x hx
        · exact h1 x hx
      · have := numB_len ((L.length : Nat) : Int)
        rw [List.length_append]; omega
theorem openOwn_any {W w : World} {E : TypeId} {v : Value} {l : List Int} (ho : w.ownsRow W.heap.size E 1 v l.length (u8s l)) (hl : l.length ≤ 1000000000) (hb : ∀ x ∈ l, 0 ≤ x ∧ x < 256) :
    Calls Try.prog 34 #[v] w fun e w' => OpenTo w (openS l) e w' := by
  obtain ⟨ao, c, hs, _⟩ := SliceAt.ofOwn ho
  exact open_any v ao c l w hs hl hb
/-- What was built, opened. -/
theorem openBuilt_any {W w : World} {E : TypeId} {v : Value} {L : List ByteArray} (ho : w.ownsRow W.heap.size E 1 v (buildS L).2.length (u8s (buildS L).2)) (h0 : (buildS L).1 = 0) :
    Calls Try.prog 34 #[v] w fun e w' => ∃ tb, e = .returned (.tuple #[.pointer (some ⟨tb, 0, none⟩), .int .i64 0]) ∧ TabAt w' tb L ∧ Kept (fun _ => False) w w' := by
  obtain ⟨hb, hl⟩ := buildS_byte L
  refine (openOwn_any ho (by omega) hb).mono ?_
  rintro e w' ⟨hk, _, h2⟩
  rw [open_build h0] at h2
  obtain ⟨tb, he, ht, _⟩ := h2 rfl
  exact ⟨tb, he, ht, hk⟩
/-- Texts in a row that was made at once. -/
theorem strs_new (w : World) (L : List ByteArray) (n : Nat) (hn : L.length = n) : StrsAt (w.alloc (.cells (strs L).toArray 9)) (.slice (some ⟨w.heap.size, 0, none⟩) n n) L := by
  subst hn
  refine ⟨some ⟨w.heap.size, 0, none⟩, L.length, by rw [List.length_map], (fun h => by cases h), fun a ha j u hu => ?_⟩
  cases ha
  exact World.news_of_block (cs := (strs L).toArray) (t := 9) (fr := (0, 0)) (heap_alloc_new w _) j u (by simpa [strs] using hu)

def awL : List ByteArray := [⟨#[97, 98]⟩, ⟨#[97, 98, 99]⟩]
theorem aw_build : buildS awL = (0, [2, 0, 2, 97, 98, 2, 1, 99]) := by decide +kernel
theorem aw_ge0 : geAt awL ⟨#[97, 98]⟩ 0 = true ∧ geAt awL ⟨#[97, 98]⟩ 1 = true := by decide +kernel
theorem aw_ge1 : geAt awL ⟨#[97, 98, 99]⟩ 0 = false ∧ geAt awL ⟨#[97, 98, 99]⟩ 1 = true := by decide +kernel
theorem aw_pre : noPre awL 0 ⟨#[97, 98]⟩ 0 = false ∧ noPre awL 0 ⟨#[97, 98]⟩ 1 = false := by decide +kernel
theorem aw_find : findZ awL ⟨#[97, 98, 99]⟩ 1 = (1, true) := by decide +kernel
theorem aw_z0 {z : Nat} (h : SearchTo awL.length (geAt awL ⟨#[97, 98]⟩) z) : z = 0 := by
  obtain ⟨h1, h2, _⟩ := h
  have hl : awL.length = 2 := rfl
  rcases h2 with h2 | h2
  · exact h2
  · have hz : z = 1 ∨ z = 2 ∨ z = 0 := by omega
    rcases hz with rfl | rfl | rfl
    · rw [aw_ge0.1] at h2; cases h2
    · rw [aw_ge0.2] at h2; cases h2
    · rfl
theorem aw_y {y : Nat} (h : SearchTo (awL.length - 0) (noPre awL 0 ⟨#[97, 98]⟩) y) : y = 2 := by
  obtain ⟨h1, _, h3⟩ := h
  have hl : awL.length = 2 := rfl
  rcases h3 with h3 | h3
  · omega
  · have hz : y = 1 ∨ y = 2 ∨ y = 0 := by omega
    rcases hz with rfl | rfl | rfl
    · rw [aw_pre.2] at h3; cases h3
    · rfl
    · rw [aw_pre.1] at h3; cases h3
theorem aw_z1 {z : Nat} (h : SearchTo awL.length (geAt awL ⟨#[97, 98, 99]⟩) z) : z = 1 := by
  obtain ⟨h1, h2, h3⟩ := h
  have hl : awL.length = 2 := rfl
  have hz : z = 1 ∨ z = 2 ∨ z = 0 := by omega
  rcases hz with rfl | rfl | rfl
  · rfl
  · rcases h2 with h2 | h2
    · omega
    · rw [aw_ge1.2] at h2; cases h2
  · rcases h3 with h3 | h3
    · omega
    · rw [aw_ge1.1] at h3; cases h3
set_option maxHeartbeats 4000000 in
theorem awake34_any (w : World) : Calls Try.prog 30 #[] w fun e w' => e = .returned (.bool true) ∧ Kept (fun _ => False) w w' := by
  have hL := strs_new w awL 2 rfl
  obtain ⟨w1, hw1⟩ : ∃ w1, w1 = w.alloc (.cells #[.string ⟨#[97, 98]⟩, .string ⟨#[97, 98, 99]⟩] 9) := ⟨_, rfl⟩
  have e1 : w.alloc (.cells (strs awL).toArray 9) = w1 := by rw [hw1]; rfl
  rw [e1] at hL
  have C1 := Lib.hid (build_any (some ⟨w.heap.size, 0, none⟩) 2 awL w1 hL (by decide) (by decide))
  have HO := Lib.hid (fun (W w : World) (v : Value) (h : w.ownsRow W.heap.size 5 1 v (buildS awL).2.length (u8s (buildS awL).2)) => openBuilt_any h (by rw [aw_build]))
  obtain ⟨q, hq⟩ : ∃ q, q = w.heap.size := ⟨_, rfl⟩
  rw [← hq] at C1
  have HW1 := Lib.hid (And.intro hw1 hq)
  have HK1 : Hid (Kept (fun _ => False) w w1) := Lib.hid (by rw [hw1]; exact (Kept.refl _ _).alloc _)
  clear hL e1 hw1 hq
  go_enter Try.func30, Try.ntmps30
  go_wp2_with fail
  rw [← HW1.out.1, ← HW1.out.2]
  refine C1.out.mono ?_
  rintro e w2 ⟨v, rfl, ho, k2⟩
  have HB := Lib.hid ho
  have HK2 := Lib.hid (HK1.out.trans k2)
  rw [aw_build] at ho ⊢
  have HOW := Lib.hid ho
  clear ho k2
  go_wp2_with fail
  refine (HO.out _ _ _ HB.out).mono ?_
  rintro e w3 ⟨tb, rfl, ht, k3⟩
  have HT := Lib.hid ht
  have HK3 := Lib.hid (HK2.out.trans k3)
  have ho3 := k3.owns HOW.out (fun _ _ x => x)
  have hcv := run_str_own ho3 27 5 9 Try.underlying27 Try.underlying5 Try.underlying9
  rw [show strOfNums [2, 0, 2, 97, 98, 2, 1, 99] = ⟨#[2, 0, 2, 97, 98, 2, 1, 99]⟩ from rfl] at hcv
  clear ht k3 ho3
  go_upto_region 5 with fail
  clear hcv
  go_wp2_with fail
  refine (tprefix_any tb awL ⟨#[97, 98]⟩ w3 HT.out (by decide)).mono ?_
  rintro e w4 ⟨z, y, hz, hy, rfl, k4⟩
  obtain rfl := aw_z0 hz
  obtain rfl := aw_y hy
  have HK4 := Lib.hid (HK3.out.trans k4)
  have HT4 := Lib.hid (HT.out.kept k4)
  clear hz hy k4
  go_wp2_with fail
  refine (tfind_any tb awL ⟨#[97, 98, 99]⟩ w4 HT4.out (by decide)).mono ?_
  rintro e w5 ⟨z, hz, rfl, k5⟩
  obtain rfl := aw_z1 hz
  rw [aw_find]
  have HK5 := Lib.hid (HK4.out.trans k5)
  have HT5 := Lib.hid (HT4.out.kept k5)
  clear hz k5
  go_wp2_with fail
  refine (tlen_any tb awL w5 HT5.out).mono ?_
  rintro e w6 ⟨rfl, rfl⟩
  rw [show ((awL.length : Nat) : Int) = 2 from rfl]
  go_wp2
  go_ret
  exact ⟨rfl, HK5.out⟩
end Go.Proofs.Ytkidbbmdlmnokaa
