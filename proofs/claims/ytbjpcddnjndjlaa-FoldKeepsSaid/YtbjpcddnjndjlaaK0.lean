/- Layer 8: what the document tells. -/
import Derived.Test.YtbjpcddnjndjlaaJ9
namespace Go.Proofs.Ytbjpcddnjndjlaa
open Go.RowKit
attribute [local go_sem ↓] Go.wp_at_zero Go.wp_at_succ

theorem slAt_made (w : World) (l : List Nat) (n : Nat) (h : l.length = n) (cs : Array Value) (hc : cs.toList = uvals l) : SlAt (w.alloc (.cells cs 22)) (.slice (some ⟨w.heap.size, 0, none⟩) n n) (uvals l) := by
  subst h
  refine ⟨some ⟨w.heap.size, 0, none⟩, l.length, by rw [uvals_length], (fun e => by cases e), fun a ha j u hu => ?_⟩
  injection ha with ha
  subst ha
  have : (Addr.add ⟨w.heap.size, 0, none⟩ j) = ⟨w.heap.size, 0 + j, none⟩ := by unfold Addr.add; by_cases hj : j = 0 <;> simp [hj]
  rw [this, Nat.zero_add, cell_of_row _ _ j _ _ _ (heap_alloc_new w _)]
  rw [← hc] at hu
  simpa using hu

set_option maxHeartbeats 4000000 in
set_option maxRecDepth 100000 in
theorem awake8 (w : World) : Calls Try.prog 12 #[] w fun e w' => e = .returned (.bool true) ∧ Kept (fun _ => False) w w' := by
  obtain ⟨wA, hwA⟩ : ∃ wA, wA = (w.alloc (.cells #[.int .u64 1, .int .u64 2, .int .u64 3] 22)).alloc (.cells #[.int .i64 3, .int .u64 0, .int .i64 (-3), .slice (some ⟨w.heap.size, 0, none⟩) 3 3, .int .i64 0, .slice none 0 0] 27) := ⟨_, rfl⟩
  have hka : Kept (fun _ => False) w wA := by rw [hwA]; exact ((Kept.refl _ w).alloc _).alloc _
  have hsl : SlAt wA (.slice (some ⟨w.heap.size, 0, none⟩) 3 3) (uvals [1, 2, 3]) := by
    rw [hwA]; exact (slAt_made w [1, 2, 3] 3 rfl _ rfl).kept ((Kept.refl (fun _ => False) _).alloc _) (fun _ _ x => x)
  have hnil : ∀ w' : World, SlAt w' (.slice none 0 0) (uvals []) := fun w' => ⟨none, 0, rfl, fun _ => rfl, fun a e => by cases e⟩
  have HD := histDown_any ⟨3, 0, -3, [1, 2, 3], 0, []⟩ 1 _ _ wA ⟨hsl, hnil _⟩ ⟨by simp, by simp, by simp, by simp, by simp, by simp⟩ (by simp) (by simp) (by unfold I64; omega)
  have e1 : downE ⟨3, 0, -3, [1, 2, 3], 0, []⟩ 1 = 0 := by decide +kernel
  have e2 : downR ⟨3, 0, -3, [1, 2, 3], 0, []⟩ 1 = ⟨2, 0, -2, [1, 5], 0, []⟩ := by
    unfold downR; rw [e1, if_pos rfl]; unfold downH
    have : downO (-3) [1, 2, 3] 1 = -2 := by decide +kernel
    have h2 : downL (-3) [1, 2, 3] 1 = [1, 5] := by decide +kernel
    simp only [Int.toNat_one, this, h2, downL_nil]
    rfl
  rw [e1, e2] at HD
  unfold histV at HD
  have HDN := Lib.hid HD
  have HAT := Lib.hid fun (w' : World) (v : Value) (h : SlAt w' v (uvals [1, 5])) => histAt_any (-2) (-2) [1, 5] v w' h (by unfold I64; omega) (by unfold I64; omega) (by simp)
  have HAT2 := Lib.hid fun (w' : World) (v : Value) (h : SlAt w' v (uvals [1, 5])) => histAt_any (-2) (-1) [1, 5] v w' h (by unfold I64; omega) (by unfold I64; omega) (by simp)
  have e3 : atN (-2) [1, 5] (-2) = 1 := by decide +kernel
  have e4 : atN (-2) [1, 5] (-1) = 5 := by decide +kernel
  rw [e3] at HAT
  rw [e4] at HAT2
  have HCK := Lib.hid fun (w' : World) (v : Value) (h : SlAt w' v (uvals [0, 1])) => histCheck_any ⟨0, 0, 0, [0, 1], 0, []⟩ v (.slice none 0 0) w' ⟨h, hnil _⟩ ⟨by simp, by simp, by simp, by simp, by simp, by simp⟩ (by simp) (by simp)
  have e5 : HistV.err ⟨0, 0, 0, [0, 1], 0, []⟩ = 3 := by decide +kernel
  rw [e5] at HCK
  unfold histV at HCK
  have HKA := Lib.hid hka
  have HWA := Lib.hid hwA
  have hb : HistBox wA (w.heap.size + 1) ⟨3, 0, -3, [1, 2, 3], 0, []⟩ (.slice (some ⟨w.heap.size, 0, none⟩) 3 3) (.slice none 0 0) := by
    rw [hwA]
    have := heap_alloc_new (w.alloc (.cells #[.int .u64 1, .int .u64 2, .int .u64 3] 22)) (.cells #[.int .i64 3, .int .u64 0, .int .i64 (-3), .slice (some ⟨w.heap.size, 0, none⟩) 3 3, .int .i64 0, .slice none 0 0] 27)
    have e : (w.alloc (.cells #[.int .u64 1, .int .u64 2, .int .u64 3] 22)).heap.size = w.heap.size + 1 := by simp
    rw [e] at this
    exact this
  clear hka hwA hsl hnil HD e1 e2 e3 e4 e5 hb
  go_enter Try.func12, Try.ntmps12
  go_wp2_with (first
    | (go_at_call 22; rw [← HWA.out]; refine HDN.out.mono ?_; rintro e w1 ⟨pv, nv, rfl, m1, m2, _⟩; obtain ⟨a5, q5, rfl⟩ := m1.slice; obtain ⟨a6, q6, rfl⟩ := m2.slice; unfold histV; rw [show (uvals (HistV.pl ⟨2, 0, -2, [1, 5], 0, []⟩)).length = 2 from rfl, show (uvals (HistV.nl ⟨2, 0, -2, [1, 5], 0, []⟩)).length = 0 from rfl]; rw [show (uvals (HistV.pl ⟨2, 0, -2, [1, 5], 0, []⟩)).length = 2 from rfl] at m1; dsimp only; dsimp only at m1; have HM1 := Lib.hid m1; have HK1 := Lib.hid m1.kept; clear m1 m2)
    | (have _tok := HK3.out; go_at_call 16; refine (HCK.out _ _ ((slAt_made w3 [0, 1] 2 rfl #[.int .u64 0, .int .u64 1] rfl))).mono ?_; rintro e w4 ⟨rfl, k4⟩; have HK4 := Lib.hid ((HK3.out.alloc (.cells #[.int .u64 0, .int .u64 1] 22)).trans k4); clear k4)
    | (have _tok := HK2.out; go_at_call 18; refine (HAT2.out _ _ (HM1.out.at_.kept HK2.out (fun _ _ x => x))).mono ?_; rintro e w3 ⟨rfl, k3⟩; have HK3 := Lib.hid (HK2.out.trans k3); obtain ⟨c0, c1, c2, c3, c4, c5⟩ := (HistBox.same (h := ⟨2, 0, -2, [1, 5], 0, []⟩) (heap_alloc_new w1 (.cells #[.int .i64 2, .int .u64 0, .int .i64 (-2), .slice a5 2 q5, .int .i64 0, .slice a6 0 q6] 27)) (HKb.out.trans k3) (fun x => x)).c; clear k3)
    | (go_at_call 18; refine (HAT.out _ _ (HM1.out.at_.kept ((Kept.refl (fun _ => False) w1).alloc (.cells #[.int .i64 2, .int .u64 0, .int .i64 (-2), .slice a5 2 q5, .int .i64 0, .slice a6 0 q6] 27)) (fun _ _ x => x))).mono ?_; rintro e w2 ⟨rfl, k2⟩; have HKb := Lib.hid k2; have HK2 := Lib.hid (((Kept.refl (fun _ => False) w1).alloc (.cells #[.int .i64 2, .int .u64 0, .int .i64 (-2), .slice a5 2 q5, .int .i64 0, .slice a6 0 q6] 27)).trans k2); obtain ⟨c0, c1, c2, c3, c4, c5⟩ := (HistBox.same (h := ⟨2, 0, -2, [1, 5], 0, []⟩) (heap_alloc_new w1 (.cells #[.int .i64 2, .int .u64 0, .int .i64 (-2), .slice a5 2 q5, .int .i64 0, .slice a6 0 q6] 27)) k2 (fun x => x)).c; clear k2)
    | fail)
  go_ret
  exact ⟨rfl, (HKA.out.trans HK1.out).trans HK4.out⟩
end Go.Proofs.Ytbjpcddnjndjlaa
