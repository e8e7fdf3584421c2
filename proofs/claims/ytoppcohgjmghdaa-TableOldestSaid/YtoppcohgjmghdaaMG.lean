/- Layer 14: Clone. -/
import Derived.Test.YtoppcohgjmghdaaMC
import Derived.Test.YtoppcohgjmghdaaCloneLay
import Derived.Shelf.SlMaps.Clone
import Derived.Deep.RegionWith
namespace Go.Proofs.Ytoppcohgjmghdaa
open Go.RowKit Go.Shelf
attribute [local go_sem ↓] Go.wp_at_zero Go.wp_at_succ

theorem mapsClone_any (b : Nat) (L : List (ByteArray × Value)) (w : World) (h : MapIs w b L) :
    Calls Try.prog 21 #[.map (some b)] w fun e w' => e = .returned (.map (some w.heap.size)) ∧ MapIs w' w.heap.size L ∧ Kept (fun _ => False) w w' ∧ w'.heap.size = w.heap.size + 1 := by
  obtain ⟨es, clock, hb, h1, h2⟩ := h.ex
  refine (AnyW.maps_Clone Try.cloneM b es clock w hb).mono fun e w' ⟨he, hw⟩ => ?_
  subst hw
  exact ⟨he, ⟨⟨es, clock, (MapKept.heap_alloc w _).1, h1, h2⟩, h.len, h.keys, h.pair⟩, (Kept.refl _ _).alloc _, by simp⟩
set_option maxRecDepth 100000 in
set_option maxHeartbeats 4000000 in
theorem tClone_any (base tb mb : Nat) (L M : List (ByteArray × Th)) (most : Int) (p : Nat) (w : World) (hbw : base ≤ w.heap.size) (h : TK base w tb mb L most M p) :
    Calls Try.prog 14 #[.pointer (some ⟨tb, 0, none⟩)] w fun e w' => ∃ tc mc, e = .returned (.pointer (some ⟨tc, 0, none⟩)) ∧ TK base w' tc mc L most M p ∧ Kept (fun _ => False) w w' ∧ w.heap.size ≤ tc ∧ w.heap.size ≤ mc := by
  have kd : Kept (fun _ => False) w w.drew := (Kept.refl _ _).drew
  have hd := h.kept kd (fun x => x) (fun x => x)
  obtain ⟨c0, c1, c2⟩ := hd.c
  have HC := Lib.hid (mapsClone_any mb _ w.drew hd.map)
  have HH := Lib.hid (And.intro h (And.intro hbw kd))
  clear h hd kd hbw
  go_enter Try.func14, Try.ntmps14
  go_wp2
  go_region_with (go_at_call 21; refine HC.out.mono ?_; rintro e w4 ⟨rfl, hm4, hk4, hs4⟩; have d0 := hk4.cell c0 (fun x => x); have d1 := hk4.cell c1 (fun x => x); have HM := Lib.hid (And.intro hm4 (And.intro hk4 hs4)); clear hm4 hk4 hs4)
  all_goals (
    go_wp2
    go_ret
    refine ⟨_, w.heap.size, rfl, ?_, (HH.out.2.2.trans HM.out.2.1).alloc _, ?_, ?_⟩
    · refine ⟨BoxAt.new _ _ _, HM.out.1.kept (S := fun _ => False) ((Kept.refl _ _).alloc _) (fun x => x), HH.out.1.perm, HH.out.1.ok, ⟨?_, ?_⟩, HH.out.1.mostR, HH.out.1.few⟩
      · have := HM.out.2.2; have := HH.out.2.1; have := HH.out.2.2.size; omega
      · have := HH.out.2.1; exact this
    · have := HM.out.2.2; have := HH.out.2.2.size; omega
    · exact Nat.le_refl _)
end Go.Proofs.Ytoppcohgjmghdaa
