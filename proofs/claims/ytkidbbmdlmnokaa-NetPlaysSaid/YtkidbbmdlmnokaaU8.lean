/- Layer 23 is awake. -/
import Derived.Test.YtkidbbmdlmnokaaU7
namespace Go.Proofs.Ytkidbbmdlmnokaa
open Go.RowKit
attribute [local go_sem ↓] Go.wp_at_zero Go.wp_at_succ

theorem has_one (m : Mg) : hasB [m] 0 = true := decide_eq_true ⟨by omega, by simp⟩
theorem look_one (m : Mg) : lookT [m] 0 = m.t := by
  unfold lookT
  rw [if_pos (has_one m)]; rfl
theorem take_one (m : Mg) : takeL [m] 0 = [] := by
  unfold takeL
  rw [if_pos (has_one m)]; rfl
theorem has_none (i : Int) : hasB [] i = false := decide_eq_false (fun e => by have h1 := e.1; have h2 := e.2; simp at h2; omega)
theorem take_none (i : Int) : takeL [] i = [] := by
  unfold takeL
  rw [if_neg (by rw [has_none]; decide)]
theorem aw23_bytes : msgE ⟨true, 3, []⟩ = (0, [1, 3]) := by decide
set_option maxHeartbeats 4000000 in
set_option maxRecDepth 100000 in
theorem awake23_any (w : World) : Calls Try.prog 13 #[] w fun e w' => e = .returned (.bool true) ∧ Kept (fun _ => False) w w' := by
  go_enter Try.func13, Try.ntmps13
  go_wp2_with fail
  refine (netNew_any w).mono ?_
  rintro e w1 ⟨nb, rfl, hn1, k1⟩
  have HN1 := Lib.hid hn1
  have HK1 := Lib.hid k1
  have hnil : ∀ w : World, SlAt w (.slice none 0 0) (u8s []) := fun w => ⟨none, 0, rfl, fun _ => rfl, fun a ha => by cases ha⟩
  have HS := Lib.hid (netSend_any w nb [] none 0 true 3 none 0 0 [] rfl w1 hn1 (hnil _) (by omega) (by simp) (by simp))
  have HNIL := Lib.hid hnil
  clear hn1 k1 hnil
  go_wp2_with fail
  refine HS.out.mono ?_
  intro e w2 hs
  obtain ⟨rfl, _, h3⟩ := hs.parts
  rw [show sendB [] ⟨true, 3, []⟩ = true by decide]
  obtain ⟨m, ao, cp, hmt, hn2, _, k2, _⟩ := h3 (by decide)
  rw [List.nil_append] at hn2
  have HN2 := Lib.hid hn2
  have HMT := Lib.hid hmt
  have HK2 := Lib.hid (HK1.out.newer k2 (fun j e => by
    rcases e with e | e
    · subst e; exact HN1.out.base
    · cases e))
  have HS2 := Lib.hid (netSend_any w nb [m] ao cp false 3 none 0 0 [] rfl w2 hn2 (HNIL.out _) (by omega) (by simp) (by simp))
  clear hs h3 hmt hn2 k2
  go_wp2_with fail
  refine HS2.out.mono ?_
  intro e w3 hs
  obtain ⟨rfl, h2, _⟩ := hs.parts
  rw [show sendB [m] ⟨false, 3, []⟩ = false by simp [sendB, rightB]]
  have k3 := h2 (by simp [sendB, rightB])
  have HN3 := Lib.hid (HN2.out.kept k3)
  have HK3 := Lib.hid (HK2.out.trans k3)
  have HT := Lib.hid (netTake_any w nb [m] ao cp 0 w3 HN3.out (by simp))
  unfold TakeTo at HT
  rw [has_one, take_one, look_one, HMT.out] at HT
  clear hs h2 k3
  go_wp2_with fail
  refine HT.out.mono ?_
  rintro e w4 ⟨⟨xk, xh, xa, xc, xb⟩, rfl, hxt, hxa, hn4, k4⟩
  have HX : xk = true ∧ xh = 3 ∧ xb = [] := by
    unfold Mg.t at hxt
    injection hxt with e1 e2 e3
    exact ⟨e1, e2, e3⟩
  obtain ⟨rfl, rfl, rfl⟩ := HX
  dsimp only [List.length_nil]
  unfold Mg.At at hxa
  dsimp only [List.length_nil] at hxa
  obtain ⟨w5, hw5⟩ : ∃ w5, w5 = w4.alloc (.cells #[.bool true, .int .i64 3, .slice xa 0 xc] 29) := ⟨_, rfl⟩
  obtain ⟨q, hq⟩ : ∃ q, q = w4.heap.size := ⟨_, rfl⟩
  have k45 : Kept (fun _ => False) w4 w5 := by rw [hw5]; exact (Kept.refl _ _).alloc _
  have HB5 : Hid (MB w5 q true 3 (.slice xa 0 xc)) := Lib.hid (by rw [hw5, hq]; exact heap_alloc_new w4 _)
  have HW5 := Lib.hid (And.intro hw5 hq)
  have HN5 := Lib.hid (hn4.kept k45)
  have HQ : Hid (∀ j, (Value.slice ao (List.length ([] : List Mg)) cp).ownBlock = some j → j ≠ q) := Lib.hid (fun j e => by have := (ownsRow_lt hn4.row.own e).1; omega)
  have HK5 : Hid (Kept (fun _ => False) w w5) := Lib.hid ((HK3.out.newer k4 (fun j e => by
    rcases e with e | e
    · subst e; exact HN1.out.base
    · exact (ownsRow_lt HN3.out.row.own e).2)).trans k45)
  have HXA := Lib.hid (hxa.kept k45 (fun _ _ x => x))
  have HT2 := Lib.hid (netTake_any w nb [] ao cp 0 w5 HN5.out (by simp))
  unfold TakeTo at HT2
  rw [has_none, take_none] at HT2
  clear hxt hxa hn4 k4 hw5 hq k45
  go_upto_region 5 with fail
  rw [← HW5.out.1, ← HW5.out.2]
  go_wp2_with fail
  refine HT2.out.mono ?_
  rintro e w6 ⟨⟨yk, yh, ya, yc, yb⟩, rfl, _, _, hn6, k6⟩
  dsimp only
  obtain ⟨ny, hny⟩ : ∃ ny, ny = yb.length := ⟨_, rfl⟩
  rw [← hny]
  have HB6 : Hid (MB w6 q true 3 (.slice xa 0 xc)) := Lib.hid (k6.same HB5.out (fun e => by
    rcases e with e | e
    · exact box_ne HB5.out HN5.out.box (by decide) e
    · exact HQ.out q e rfl))
  have HK6 : Hid (Kept (fun _ => False) w w6) := Lib.hid (HK5.out.newer k6 (fun j e => by
    rcases e with e | e
    · subst e; exact HN1.out.base
    · exact (ownsRow_lt HN5.out.row.own e).2))
  have HXA6 : Hid (SlAt w6 (.slice xa 0 xc) (u8s [])) := Lib.hid ⟨xa, xc, rfl, fun _ => rfl, fun a ha j u hu => by cases hu⟩
  clear hn6 k6 hny
  go_upto_region 6 with fail
  obtain ⟨w7, hw7⟩ : ∃ w7, w7 = w6.alloc (.cells #[.bool yk, .int .i64 yh, .slice ya ny yc] 29) := ⟨_, rfl⟩
  rw [← hw7]
  have k67 : Kept (fun _ => False) w6 w7 := by rw [hw7]; exact (Kept.refl _ _).alloc _
  have HB7 : Hid (MB w7 q true 3 (.slice xa 0 xc)) := Lib.hid (k67.same HB6.out (fun x => x))
  have HK7 := Lib.hid (HK6.out.trans k67)
  have HBY := Lib.hid (netBytes_any true 3 xa 0 xc [] rfl w7 (HXA6.out.kept k67 (fun _ _ x => x)) (by omega) (by simp))
  rw [aw23_bytes] at HBY
  clear hw7 k67
  obtain ⟨b0, b1, b2⟩ := HB7.out.c
  go_wp2_with fail
  refine HBY.out.mono ?_
  rintro e w8 ⟨v, rfl, ho, k8⟩
  have HB8 : Hid (MB w8 q true 3 (.slice xa 0 xc)) := Lib.hid (k8.same HB7.out (fun x => x))
  have HK8 := Lib.hid (HK7.out.trans k8)
  have hcv := run_str_own (l := [1, 3]) ho 27 5 9 Try.underlying27 Try.underlying5 Try.underlying9
  rw [show strOfNums [1, 3] = ⟨#[1, 3]⟩ from rfl] at hcv
  clear ho k8 b0 b1 b2
  obtain ⟨b0, b1, b2⟩ := HB8.out.c
  go_wp2
  go_ret
  exact ⟨rfl, HK8.out⟩
end Go.Proofs.Ytkidbbmdlmnokaa
