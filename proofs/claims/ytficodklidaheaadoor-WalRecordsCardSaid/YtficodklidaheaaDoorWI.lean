/- Layer 19: the walk of WalRecords. -/
import Derived.Test.YtficodklidaheaaDoorWH
import Derived.Test.YtficodklidaheaaDoorR2
namespace Go.Proofs.YtficodklidaheaaDoor
open Go.RowKit
attribute [local go_sem ↓] Go.wp_at_zero Go.wp_at_succ

set_option maxRecDepth 100000 in
set_option maxHeartbeats 4000000 in
theorem walRecords_walk (ao : Option Addr) (len cap : Nat) (zs : List Int) (W : World) (hrow : IsRow .u8 W ao len cap zs) (HN : Nibs W) :
    Calls Tryd.prog 5 #[.slice ao len cap] W fun e w' => e = .returned (.bool true) ∧ Kept (fun _ => False) W w' := by
  have hcap := (isRow_cap hrow).1
  obtain ⟨l, hl, HB, _⟩ := hrow.row8
  have HAW := Lib.hid (awake19_any W HN)
  by_cases h3 : 3000 < len
  · have q3 : (3000 : Int) < (len : Int) := by omega
    clear hl HB hcap hrow
    go_enter Tryd.func5, Tryd.ntmps5
    go_wp2_with fail
    refine HAW.out.mono ?_
    rintro e w1 ⟨rfl, k1⟩
    have HK1 := Lib.hid k1
    clear k1
    go_wp2
    go_ret
    exact ⟨rfl, HK1.out⟩
  · have q3 : ¬ (3000 : Int) < (len : Int) := by omega
    have HP := Lib.hid (fun w' (k : Kept (fun _ => False) W w') => wRecords_any ao cap l (by omega) (by omega) w' (HB.kept k) (HN.kept k))
    have HQ := Lib.hid (fun w' (k : Kept (fun _ => False) W w') => refRecords_any ao cap l (by omega) (by omega) w' (HB.kept k))
    have HLB := Lib.hid HB.lt
    have HL := Lib.hid (show l.length ≤ 3000 by omega)
    rw [hl] at HP HQ
    clear hl HB hcap hrow h3
    go_enter Tryd.func5, Tryd.ntmps5
    go_wp2_with fail
    refine HAW.out.mono ?_
    rintro e w1 ⟨rfl, k1⟩
    have HK1 := Lib.hid k1
    clear k1
    go_wp2_with fail
    refine (HP.out w1 HK1.out).mono ?_
    rintro e w2 ⟨Ls, u, n, hsc, k2, hres⟩
    have HK2 := Lib.hid (HK1.out.trans k2)
    have HSC := Lib.hid hsc
    have HLL : Hid (Ls.length ≤ 1000000000) := Lib.hid (by have := hsc.few; have := HL.out; omega)
    rcases hres with ⟨hn, v, rfl, hg⟩ | ⟨hn, rfl⟩
    · have HN2 := Lib.hid hn
      have HG := Lib.hid hg.at_
      obtain ⟨va, vc, hv, _⟩ := hg
      subst hv
      obtain ⟨m, hm⟩ : ∃ m, m = Ls.length := ⟨_, rfl⟩
      rw [← hm] at HG ⊢
      clear hsc k2 hn hm
      go_wp2_with fail
      refine (HQ.out w2 HK2.out).mono ?_
      rintro e w3 ⟨Ls2, u2, n2, hsc2, k3, ⟨hn2, v3, rfl, hr3⟩ | ⟨hn2, rfl⟩⟩
      · obtain ⟨rfl, rfl, rfl⟩ := hsc2.fn HSC.out
        have HR3 := Lib.hid hr3
        have HG3 := Lib.hid (HG.out.kept k3)
        obtain ⟨ra, rc, hv3, _⟩ := hr3
        subst hv3
        obtain ⟨m3, hm3⟩ : ∃ m3, m3 = Ls2.length := ⟨_, rfl⟩
        rw [← hm3] at HR3 ⊢
        obtain ⟨w4, hw4⟩ : ∃ w4, w4 = w3.alloc (.cells #[.slice ra m3 rc, .int .i64 ((u2 : Nat) : Int), .int .i64 0] 43) := ⟨_, rfl⟩
        obtain ⟨g, hg⟩ : ∃ g, g = w3.heap.size := ⟨_, rfl⟩
        have k4 : Kept (fun _ => False) w3 w4 := by rw [hw4]; exact (Kept.refl _ _).alloc _
        have b4 : BoxAt w4 g 43 #[.slice ra m3 rc, .int .i64 ((u2 : Nat) : Int), .int .i64 0] := by rw [hw4, hg]; exact BoxAt.new _ _ _
        have HS := Lib.hid (same_any _ _ Ls2 HLL.out w4 (HG3.out.kept k4) (HR3.out.kept k4))
        have HW4 := Lib.hid (And.intro hw4 hg)
        have HK4 := Lib.hid (HK2.out.trans (k3.trans k4))
        have HB4 := Lib.hid b4
        have d0 := b4.cell (i := 0) (u := .slice ra m3 rc) rfl
        clear hsc2 k3 hn2 hm3 hw4 hg k4 b4
        go_upto_region 7 with fail
        rw [← HW4.out.1, ← HW4.out.2]
        go_wp2_with fail
        refine HS.out.mono ?_
        rintro e w5 ⟨rfl, k5⟩
        have b5 := HB4.out.kept k5 (fun x => x)
        have d1 := b5.cell (i := 1) (u := .int .i64 ((u2 : Nat) : Int)) rfl
        have d2 := b5.cell (i := 2) (u := .int .i64 0) rfl
        have HK5 := Lib.hid (HK4.out.trans k5)
        clear k5 b5 d0
        go_wp2
        go_ret
        exact ⟨rfl, HK5.out⟩
      · obtain ⟨rfl, rfl, rfl⟩ := hsc2.fn HSC.out
        exact absurd HN2.out (fun e => e.elim hn2.1 hn2.2)
    · have HN2 := Lib.hid hn
      clear hsc k2 hn
      go_wp2_with fail
      refine (HQ.out w2 HK2.out).mono ?_
      rintro e w3 ⟨Ls2, u2, n2, hsc2, k3, ⟨hn2, v3, rfl, hr3⟩ | ⟨hn2, rfl⟩⟩
      · obtain ⟨rfl, rfl, rfl⟩ := hsc2.fn HSC.out
        exact absurd hn2 (fun e => e.elim HN2.out.1 HN2.out.2)
      · obtain ⟨w4, hw4⟩ : ∃ w4, w4 = w3.alloc (.cells #[.slice none 0 0, .int .i64 0, .int .i64 15] 43) := ⟨_, rfl⟩
        obtain ⟨g, hg⟩ : ∃ g, g = w3.heap.size := ⟨_, rfl⟩
        have k4 : Kept (fun _ => False) w3 w4 := by rw [hw4]; exact (Kept.refl _ _).alloc _
        have b4 : BoxAt w4 g 43 #[.slice none 0 0, .int .i64 0, .int .i64 15] := by rw [hw4, hg]; exact BoxAt.new _ _ _
        have HS := Lib.hid (same_any (.slice none 0 0) (.slice none 0 0) [] (by simp) w4 (GotRows.nil w4 0 0).at_ (GotRows.nil w4 0 0).at_)
        have HW4 := Lib.hid (And.intro hw4 hg)
        have HK4 := Lib.hid (HK2.out.trans (k3.trans k4))
        have HB4 := Lib.hid b4
        have d0 := b4.cell (i := 0) (u := .slice none 0 0) rfl
        clear hsc2 k3 hn2 hw4 hg k4 b4
        go_upto_region 7 with fail
        rw [← HW4.out.1, ← HW4.out.2]
        go_wp2_with fail
        refine HS.out.mono ?_
        rintro e w5 ⟨rfl, k5⟩
        have b5 := HB4.out.kept k5 (fun x => x)
        have d1 := b5.cell (i := 1) (u := .int .i64 0) rfl
        have d2 := b5.cell (i := 2) (u := .int .i64 15) rfl
        have HK5 := Lib.hid (HK4.out.trans k5)
        clear k5 b5 d0
        go_wp2
        go_ret
        exact ⟨rfl, HK5.out⟩
end Go.Proofs.YtficodklidaheaaDoor
