/- Layer 12 is awake (written by tools/gen_XI18.py). -/
import Derived.Test.YteflepcmblacaaaGreatDoorI17
import Derived.Test.YteflepcmblacaaaGreatDoorI15
namespace Go.Proofs.YteflepcmblacaaaGreatDoor
open Go.RowKit
attribute [local go_sem ↓] Go.wp_at_zero Go.wp_at_succ

def awP : Pnt := ⟨{ data := #[120] }, [], 1, 1, true, 0, 10, 5, 0, 0, ⟨0, 0, 0, [], 0, []⟩, 0⟩
def awM : Pnt := { awP with whole := -5 }
theorem awP_chk : chk awP = 0 := by kernel_rfl
theorem awM_chk : chk awM = 1 := by kernel_rfl
theorem awP_key : keyT awP = { data := #[120, 32, 49, 49, 49] } := by kernel_rfl
theorem awP_bytes : pntB awP = [1, 120, 1, 1, 1, 0, 0, 10, 10] := by kernel_rfl
theorem awP_text : (txt awP).size = 1 := by kernel_rfl
theorem aw_str : strOfNums [1, 120, 1, 1, 1, 0, 0, 10, 10] = { data := #[1, 120, 1, 1, 1, 0, 0, 10, 10] } := by kernel_rfl
theorem slAt_nilU (w : World) : SlAt w (.slice none 0 0) (uvals []) := SlAt.ofOwn (base := 0) (e := 23) (World.ownsRow_nil _ _ _ _)
theorem awP_at (w : World) : PntAt w awP none 0 (.slice none 0 0) (.slice none 0 0) := ⟨fun h => absurd h (by decide), Nat.le_refl _, ⟨slAt_nilU w, slAt_nilU w⟩⟩
theorem awM_at (w : World) : PntAt w awM none 0 (.slice none 0 0) (.slice none 0 0) := ⟨fun h => absurd h (by decide), Nat.le_refl _, ⟨slAt_nilU w, slAt_nilU w⟩⟩
theorem awP_ok : awP.ok := ⟨by unfold I64 awP; decide, by unfold I64 awP; decide, by unfold I64 awP; decide, by unfold I64 awP; decide, by unfold I64 awP; decide, by unfold awP; decide, by unfold awP; decide, ⟨by unfold awP; decide, by unfold awP; decide, by unfold awP; decide, fun x hx => (by cases hx), by unfold awP; decide, fun x hx => (by cases hx)⟩, by unfold I64 awP; decide⟩
theorem awM_ok : awM.ok := ⟨awP_ok.kind, awP_ok.temp, awP_ok.start, awP_ok.time, by unfold I64 awM awP; decide, awP_ok.re, awP_ok.im, awP_ok.h, awP_ok.flags⟩
theorem awP_light : awP.light := ⟨by unfold awP; decide, by unfold awP; decide, fun p hp => (by cases hp), by unfold awP; decide, by unfold awP; decide⟩
theorem awM_light : awM.light := ⟨awP_light.name, awP_light.len, awP_light.sh, awP_light.pl, awP_light.nl⟩
set_option maxRecDepth 100000 in
set_option maxHeartbeats 8000000 in
theorem awake12_any (w : World) : Calls Tryz.prog 5 #[] w fun e w' => e = .returned (.bool true) ∧ Kept (fun _ => False) w w' := by
  obtain ⟨q, hq⟩ : ∃ q, q = w.heap.size := ⟨_, rfl⟩
  obtain ⟨w1, hw1⟩ : ∃ w1, w1 = w.alloc (.cells #[.string { data := #[120] }, .slice none 0 0, .int .i64 1, .int .i64 1, .bool true, .int .i64 0, .int .i64 10, .int .i64 5, .int .u64 0, .int .u64 0, .int .i64 0, .int .u64 0, .int .i64 0, .slice none 0 0, .int .i64 0, .slice none 0 0, .int .i64 0] 30) := ⟨_, rfl⟩
  have HK1 : Hid (Kept (fun _ => False) w w1) := Lib.hid (by rw [hw1]; exact (Kept.refl _ _).alloc _)
  have HB1 : Hid (w1.heap[q]? = some (.cells #[.string { data := #[120] }, .slice none 0 0, .int .i64 1, .int .i64 1, .bool true, .int .i64 0, .int .i64 10, .int .i64 5, .int .u64 0, .int .u64 0, .int .i64 0, .int .u64 0, .int .i64 0, .slice none 0 0, .int .i64 0, .slice none 0 0, .int .i64 0] 30 (0, 0))) := Lib.hid (by rw [hw1, hq]; exact heap_alloc_new w _)
  have HKY := Lib.hid (fun w' => pKey_any awP none none none 0 0 0 w' (awP_at w') awP_ok awP_light)
  have HBY := Lib.hid (fun w' => pBytes_any awP none none none 0 0 0 w' (awP_at w') awP_ok awP_light)
  have HRD := Lib.hid (fun w' ao c h => pRead_any awP awP_chk awP_ok awP_light (by rw [awP_text]; omega) ao c w' h (by rw [awP_bytes]; decide))
  have HCK := Lib.hid (fun w' => pCheck_any awM none none none 0 0 0 w' (awM_at w') awM_ok awM_light)
  unfold KeyTo at HKY
  unfold BytesTo at HBY
  unfold ReadTo at HRD
  rw [awP_chk, awP_key] at HKY
  rw [awP_chk, awP_bytes] at HBY
  rw [awP_bytes] at HRD
  rw [awM_chk] at HCK
  have HW1 := Lib.hid (And.intro hw1 hq)
  clear hw1 hq
  unfold pntV pntC awP at HKY HBY HRD
  unfold pntV pntC awM awP at HCK
  dsimp only [List.length_nil, List.length_cons] at HKY HBY HRD HCK
  go_enter Tryz.func5, Tryz.ntmps5
  go_upto_region 2 with fail
  rw [← HW1.out.1, ← HW1.out.2]
  go_wp2_with (first
    | (refine wpList_load_row rfl 30 (.tmp 1) rfl q rfl 30 _ (0, 0) _ HB1.out Tryz.underlying30 rfl point_info ?_)
    | fail)
  refine (HKY.out w1).mono ?_
  rintro e w2 (⟨h, _⟩ | ⟨_, rfl, k2⟩)
  · exact absurd rfl h
  have HB2 := Lib.hid (k2.same HB1.out (fun x => x))
  have HK2 := Lib.hid (HK1.out.trans k2)
  clear k2
  go_wp2_with (first
    | (refine wpList_load_row rfl 30 (.tmp 1) rfl q rfl 30 _ (0, 0) _ HB2.out Tryz.underlying30 rfl point_info ?_)
    | fail)
  refine (HBY.out w2).mono ?_
  rintro e w3 (⟨h, _⟩ | ⟨_, v, rfl, ho, k3⟩)
  · exact absurd rfl h
  obtain ⟨ba, bc, rfl⟩ := ownsRow_slice ho
  obtain ⟨ao, c, hs, _⟩ := SliceAt.ofOwn ho
  have hs' : SliceAt w3 (.slice ba 9 bc) ba 9 bc (u8s [1, 120, 1, 1, 1, 0, 0, 10, 10]) := by
    have := hs.val
    injection this with e1 e2 e3
    subst e1 e3
    exact hs
  have HRC := Lib.hid (HRD.out w3 ba bc hs')
  have HO3 := Lib.hid ho
  have HB3 := Lib.hid (k3.same HB2.out (fun x => x))
  have HK3 := Lib.hid (HK2.out.trans k3)
  clear ho hs hs' k3
  go_wp2_with fail
  refine HRC.out.mono ?_
  rintro e w4 ⟨a1, c1, va, vc, ua, uc, rfl, m4, _, _⟩
  have hb4 := m4.kept.same HB3.out (fun x => x)
  have ho4 := m4.kept.owns HO3.out (fun _ _ x => x)
  obtain ⟨g, hg⟩ : ∃ g, g = w4.heap.size := ⟨_, rfl⟩
  obtain ⟨w5, hw5⟩ : ∃ w5, w5 = w4.alloc (.cells #[.string { data := #[120] }, .slice a1 0 c1, .int .i64 1, .int .i64 1, .bool true, .int .i64 0, .int .i64 10, .int .i64 5, .int .u64 0, .int .u64 0, .int .i64 0, .int .u64 0, .int .i64 0, .slice va 0 vc, .int .i64 0, .slice ua 0 uc, .int .i64 0] 30) := ⟨_, rfl⟩
  have k45 : Kept (fun _ => False) w4 w5 := by rw [hw5]; exact (Kept.refl _ _).alloc _
  have HB5 := Lib.hid (k45.same hb4 (fun x => x))
  have HG5 : Hid (w5.heap[g]? = some (.cells #[.string { data := #[120] }, .slice a1 0 c1, .int .i64 1, .int .i64 1, .bool true, .int .i64 0, .int .i64 10, .int .i64 5, .int .u64 0, .int .u64 0, .int .i64 0, .int .u64 0, .int .i64 0, .slice va 0 vc, .int .i64 0, .slice ua 0 uc, .int .i64 0] 30 (0, 0))) := Lib.hid (by rw [hw5, hg]; exact heap_alloc_new w4 _)
  have HO5 := Lib.hid (k45.owns ho4 (fun _ _ x => x))
  have HK5 := Lib.hid ((HK3.out.trans m4.kept).trans k45)
  have HNG : Hid (g ≠ q) := Lib.hid (by have := (Array.getElem?_eq_some_iff.1 hb4).1; omega)
  have HW5 := Lib.hid (And.intro hw5 hg)
  have c7 := cell_rowZ 7 _ HB5.out rfl
  have f7 := free_of_rowZ 7 HB5.out
  clear m4 hb4 ho4 hg hw5 k45
  go_upto_region 5 with fail
  rw [← HW5.out.1, ← HW5.out.2]
  go_upto_region 6 with fail
  obtain ⟨w6, hw6⟩ : ∃ w6, w6 = w5.setCell ⟨q, 7, none⟩ (.int .i64 (-5)) := ⟨_, rfl⟩
  have HB6 : Hid (w6.heap[q]? = some (.cells #[.string { data := #[120] }, .slice none 0 0, .int .i64 1, .int .i64 1, .bool true, .int .i64 0, .int .i64 10, .int .i64 (-5), .int .u64 0, .int .u64 0, .int .i64 0, .int .u64 0, .int .i64 0, .slice none 0 0, .int .i64 0, .slice none 0 0, .int .i64 0] 30 (0, 0))) := Lib.hid (by rw [hw6]; exact heap_setCell_same _ _ 7 _ _ _ HB5.out)
  have k56 : Kept (fun k => k = q) w5 w6 := by rw [hw6]; exact (Kept.refl (fun k => k = q) w5).setCell (p := ⟨q, 7, none⟩) (fun _ => rfl) _
  have g7 := cell_rowZ 7 _ (k56.same HG5.out HNG.out) rfl
  have ho6 := k56.owns HO5.out (fun j e x => own_box HO5.out HB5.out (by decide) (by rw [e, x]))
  have hcv := run_strI (P := Tryz.prog) (SlAt.ofOwn ho6) 33 5 9 Tryz.underlying33 Tryz.underlying5 Tryz.underlying9
  rw [aw_str] at hcv
  have HK6 := Lib.hid (HK5.out.newer k56 (fun j e => by have := HW1.out.2; omega))
  rw [← hw6]
  clear hw6 k56 ho6 c7 f7
  go_wp2_with (first
    | (refine wpList_load_row rfl 30 (.tmp 1) rfl q rfl 30 _ (0, 0) _ HB6.out Tryz.underlying30 rfl point_info ?_)
    | (refine wpList_load_rowG rfl 30 (.tmp 1) rfl q rfl 30 _ (0, 0) _ HB6.out Tryz.underlying30 rfl point_info ?_)
    | fail)
  refine (HCK.out w6).mono ?_
  rintro e w7 ⟨rfl, k7⟩
  have HK7 := Lib.hid (HK6.out.trans k7)
  clear k7
  go_wp2
  go_ret
  exact ⟨rfl, HK7.out⟩
end Go.Proofs.YteflepcmblacaaaGreatDoor
