/- Layer 20: there, tidy. -/
import Derived.Test.YtficodklidaheaaDoorWB
import Derived.Test.YtficodklidaheaaDoorS6
import Derived.Test.YtficodklidaheaaDoorS7
import Derived.Deep.RegionWith
namespace Go.Proofs.YtficodklidaheaaDoor
open Go.RowKit
attribute [local go_sem ↓] Go.wp_at_zero Go.wp_at_succ

theorem thereD_eq (D : DA) (s : ByteArray) : thereD D s = decide ((sizeA D s).2.2 = 0) := by
  unfold thereD sizeA
  cases D.down with
  | true => rfl
  | false =>
    cases getM D.L s with
    | none => rfl
    | some f => rfl
theorem sizeA_err (D : DA) (s : ByteArray) : (sizeA D s).2.2 = 0 ∨ (sizeA D s).2.2 = 7 ∨ (sizeA D s).2.2 = 13 := by
  unfold sizeA
  cases D.down with
  | true => exact .inr (.inr rfl)
  | false =>
    cases getM D.L s with
    | none => exact .inr (.inl rfl)
    | some f => exact .inl rfl
set_option maxRecDepth 100000 in
set_option maxHeartbeats 2000000 in
theorem sThere_any (base db mb : Nat) (L : List (ByteArray × Fi)) (D : DA) (s : ByteArray) (hs : s.size ≤ maxLen) (w : World) (h : DK base w db mb L D) :
    Calls Tryd.prog 96 #[.pointer (some ⟨db, 0, none⟩), .string s] w fun e w' => e = .returned (.bool (thereD D s)) ∧ Kept (fun _ => False) w w' := by
  have HS := Lib.hid (dSize_any base db mb L D s hs w h)
  have HT := Lib.hid (thereD_eq D s)
  have HE := Lib.hid (sizeA_err D s)
  obtain ⟨b, hb⟩ : ∃ b, b = thereD D s := ⟨_, rfl⟩
  rw [← hb] at HT ⊢
  obtain ⟨x, y, z, hx⟩ : ∃ x y z, sizeA D s = (x, y, z) := ⟨_, _, _, rfl⟩
  rw [hx] at HS HT HE
  dsimp only at HS HT HE
  clear h hb hx
  have HB : Hid (b = decide (z = 0)) := HT
  rcases HE.out with rfl | rfl | rfl
  all_goals (
    go_enter Tryd.func96, Tryd.ntmps96
    go_wp2_with fail
    refine HS.out.mono ?_
    rintro e w1 ⟨rfl, k1⟩
    have HK := Lib.hid k1
    clear k1
    go_wp2
    go_ret
    exact ⟨by rw [HB.out]; rfl, HK.out⟩)
set_option maxRecDepth 100000 in
set_option maxHeartbeats 2000000 in
theorem sTidy_any (base db mb : Nat) (L : List (ByteArray × Fi)) (D : DA) (s : ByteArray) (hs : s.size ≤ maxLen) (w : World) (h : DK base w db mb L D) :
    Calls Tryd.prog 76 #[.pointer (some ⟨db, 0, none⟩), .string s] w (DTo base w db mb L (tidyD D s)) := by
  have HT := Lib.hid (sThere_any base db mb L D s hs w h)
  have HR := Lib.hid (fun w' (k : Kept (fun _ => False) w w') => dRemove_any base db mb L D s hs w' (h.kept k (fun _ _ x => x)))
  have HH := Lib.hid h
  have HD : Hid (tidyD D s = if thereD D s = true then removeD D s else (D, 0)) := Lib.hid rfl
  clear h
  cases ht : thereD D s with
  | false =>
    rw [ht] at HT HD
    rw [HD.out]
    clear ht
    go_enter Tryd.func76, Tryd.ntmps76
    go_wp2_with fail
    refine HT.out.mono ?_
    rintro e w1 ⟨rfl, k1⟩
    have HK := Lib.hid k1
    clear k1
    go_wp2
    go_ret
    exact ⟨L, rfl, HH.out.kept HK.out (fun _ _ x => x), HK.out.mono (fun _ _ x => x.elim), Foot.refl _ _ _ _⟩
  | true =>
    rw [ht] at HT HD
    rw [HD.out]
    clear ht
    go_enter Tryd.func76, Tryd.ntmps76
    go_wp2_with fail
    refine HT.out.mono ?_
    rintro e w1 ⟨rfl, k1⟩
    have HK := Lib.hid k1
    clear k1
    go_wp2_with fail
    refine (HR.out w1 HK.out).mono ?_
    rintro e w2 ⟨L2, rfl, h2, k2, f2⟩
    have H2 := Lib.hid (And.intro h2 (And.intro k2 f2))
    clear h2 k2 f2
    go_wp2
    go_ret
    exact ⟨L2, rfl, H2.out.1, (HK.out.mono (fun _ _ x => x.elim)).trans H2.out.2.1, fun j e => (H2.out.2.2 j e).imp id (Nat.le_trans HK.out.size)⟩
end Go.Proofs.YtficodklidaheaaDoor
