/- Layer 1: awake; the walk of 'BitsOpen'. -/
import Derived.Test.YtanhdjdojeoodaaB7
import Derived.Test.YtanhdjdojeoodaaL3
namespace Go.Proofs.Ytanhdjdojeoodaa
open Go.RowKit
attribute [local go_sem ↓] Go.wp_at_zero Go.wp_at_succ

theorem BwTo.below {w w' : World} {B p : Nat} {v : Value} {bs bs' : List Bool} (h : BwAt w B p v bs) (k : BwTo w w' B p v bs') : Kept (fun k => B ≤ k) w w' := by
  obtain ⟨_, _, _, k3⟩ := k
  refine k3.mono fun j _ hj => ?_
  rcases hj with rfl | hj
  · exact h.base
  · exact (ownsRow_lt h.owns hj).2

theorem slAt_lit (w : World) (l : List Nat) : SlAt (w.alloc (.cells (bys l).toArray 5)) (.slice (some ⟨w.heap.size, 0, none⟩) l.length l.length) (bys l) := by
  refine ⟨some ⟨w.heap.size, 0, none⟩, l.length, by rw [bys_length], (fun h => by cases h), fun a ha => ?_⟩
  cases ha
  have := World.news_of_block (cs := (bys l).toArray) (t := 5) (fr := (0, 0)) (heap_alloc_new w (.cells (bys l).toArray 5))
  intro j u hu
  exact this j u (by simpa using hu)

theorem awake1_open : openE [168] 5 = 0 := by decide +kernel
theorem awake1_bits : (bitsOf [168]).take 5 = [true, false, true, false, true] := by decide +kernel
theorem awake1_put : ([] ++ bitsN 5 3) ++ bitsN 1 2 = [true, false, true, false, true] := by decide +kernel
theorem awake1_take : numB (([true, false, true, false, true].drop 0).take 3) = 5 := by decide +kernel
theorem awake1_pack : packB [true, false, true, false, true] = [168] := by decide +kernel

set_option maxHeartbeats 1000000 in
theorem awake1_any (w : World) :
    Calls Try.prog 12 #[] w fun e w' => e = .returned (.bool true) ∧ Kept (fun _ => False) w w' := by
  go_enter Try.func12, Try.ntmps12
  go_wp2_with fail
  refine (bnew_any w).mono ?_
  rintro e w1 ⟨rfl, hw1⟩
  have H0 := bnew_at w.heap.size w (Nat.le_refl _)
  rw [← hw1] at H0
  have K1 : Kept (fun k => w.heap.size ≤ k) w w1 := by rw [hw1]; exact (Kept.refl _ _).alloc _
  have B1 := K1.size
  clear hw1
  go_wp2_with fail
  refine (bput_yes w.heap.size w.heap.size _ _ 5 3 w1 H0 B1 (by decide) (by decide) (by decide)).mono ?_
  rintro e w2 ⟨rfl, ht2⟩
  obtain ⟨v2, H2, S2, b2⟩ := ht2.part
  go_wp2_with fail
  refine (bput_yes w.heap.size w.heap.size v2 _ 1 2 w2 H2 (by omega) (by decide) (by decide) (by decide)).mono ?_
  rintro e w3 ⟨rfl, ht3⟩
  have T3 := b2.out _ _ ht3
  rw [awake1_put] at T3
  have K3 : Kept (fun k => w.heap.size ≤ k) w w3 := K1.trans (BwTo.below H0 T3)
  obtain ⟨v3, H3, S3, _⟩ := T3.part
  clear ht2 b2 ht3 T3 H0 H2
  go_wp2_with fail
  refine (bwlen_any w.heap.size w.heap.size v3 _ w3 H3).mono ?_
  rintro e w' ⟨rfl, rfl⟩
  go_wp2_with fail
  have hv := slAt_lit w3 [168]
  refine (bopen_yes _ [168] 5 _ hv (by decide) (by decide) awake1_open).mono ?_
  rw [awake1_bits]
  rintro e w5 ⟨p5, v5, rfl, HR, K5⟩
  have K35 : Kept (fun _ => False) w3 w5 := ((Kept.refl _ _).alloc _).trans K5
  have K5' : Kept (fun k => w.heap.size ≤ k) w w5 := K3.trans (K35.mono (fun _ _ h => h.elim))
  have H5 := H3.keptF K35
  have B5 := K35.size
  go_wp2_with fail
  refine (bwbytes_any w.heap.size w.heap.size v3 _ w5 H5 (by decide)).mono ?_
  rw [awake1_pack]
  rintro e w6 ⟨v6, rfl, ho6, K6⟩
  have K6' := K5'.trans (K6.mono (S' := fun k => w.heap.size ≤ k) (fun _ _ h => h.elim))
  have HR6 := HR.keptF K6
  have hcv := run_strN (P := Try.prog) (SlAt.ofOwn ho6) 29 5 9 Try.underlying29 Try.underlying5 Try.underlying9
  rw [show strN [168] = ⟨#[168]⟩ from rfl] at hcv
  go_wp2_with fail
  refine (btake_yes _ p5 v5 _ 0 3 w6 HR6 (by decide) (by decide) (by decide)).mono ?_
  rw [awake1_take]
  rintro e w7 ⟨rfl, HR7, K7⟩
  have K7' := K6'.trans (K7.mono (S' := fun k => w.heap.size ≤ k) (fun k _ h => by have := HR6.base; simp at this; subst h; have := K35.size; have := K3.size; simp at *; omega))
  go_wp2_with fail
  refine (btake_no _ p5 v5 _ _ 3 w7 HR7 (by decide) (.inr (.inr (by decide)))).mono ?_
  rintro e w8 ⟨rfl, HR8, K8⟩
  have K8' := K7'.trans (K8.mono (S' := fun k => w.heap.size ≤ k) (fun k _ h => by have := HR6.base; simp at this; subst h; have := K35.size; have := K3.size; simp at *; omega))
  go_wp2_with fail
  refine (bleft_any _ p5 v5 _ _ w8 HR8 (by decide)).mono ?_
  rintro e w9 ⟨rfl, q, rfl⟩
  go_wp2
  go_ret
  exact ⟨rfl, (K8'.drewN q).mono (fun k h1 h2 => by omega)⟩
end Go.Proofs.Ytanhdjdojeoodaa
