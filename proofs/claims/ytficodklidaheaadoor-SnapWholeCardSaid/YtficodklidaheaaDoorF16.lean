/- package limnographref04: Same. -/
import Derived.Test.YtficodklidaheaaDoorF13
namespace Go.Proofs.YtficodklidaheaaDoor
open Go.RowKit
attribute [local go_sem ↓] Go.wp_at_zero Go.wp_at_succ

/-- The value v is a slice of slices that read as the rows of bytes Ls. -/
def RowsAt (w : World) (v : Value) (Ls : List (List Nat)) : Prop :=
  ∃ ao c, v = .slice ao Ls.length c ∧ ∀ i, i < Ls.length → ∃ a ai ci, ao = some a ∧ w.cell? (a.add i) = some (.slice ai (Ls.getD i []).length ci) ∧ Row8 w (.slice ai (Ls.getD i []).length ci) (Ls.getD i [])
theorem RowsAt.kept {w w' : World} {v : Value} {Ls : List (List Nat)} (h : RowsAt w v Ls) (hk : Kept (fun _ => False) w w') : RowsAt w' v Ls := by
  obtain ⟨ao, c, rfl, hc⟩ := h
  refine ⟨ao, c, rfl, fun i hi => ?_⟩
  obtain ⟨a, ai, ci, rfl, h1, h2⟩ := hc i hi
  exact ⟨a, ai, ci, rfl, hk.cell h1 (fun x => x), h2.kept hk⟩
theorem RowsAt.take {w : World} {ao : Option Addr} {n c k : Nat} {Ls : List (List Nat)} (h : RowsAt w (.slice ao n c) Ls) (hk : k ≤ Ls.length) : RowsAt w (.slice ao k c) (Ls.take k) := by
  obtain ⟨ao', c', e, hc⟩ := h
  injection e with e1 e2 e3
  subst e1; subst e3
  have hl : (Ls.take k).length = k := by rw [List.length_take]; omega
  refine ⟨ao, c, by rw [hl], fun i hi => ?_⟩
  rw [hl] at hi
  have e : (Ls.take k).getD i [] = Ls.getD i [] := by simp only [List.getD_eq_getElem?_getD, List.getElem?_take, if_pos hi]
  rw [e]
  exact hc i (by omega)

set_option maxHeartbeats 1000000 in
theorem same_any (va vb : Value) (L : List (List Nat)) (hL : L.length ≤ 1000000000) (w : World) (HA : RowsAt w va L) (HB : RowsAt w vb L) :
    Calls Tryd.prog 17 #[va, vb] w fun e w' => e = .returned (.bool true) ∧ Kept (fun _ => False) w w' := by
  obtain ⟨ao, c, rfl, ha⟩ := HA
  obtain ⟨bo, d, rfl, hb⟩ := HB
  have HA := Lib.hid ha
  have HB := Lib.hid hb
  obtain ⟨N, hN⟩ : ∃ N, N = L.length := ⟨_, rfl⟩
  rw [← hN] at HA HB hL ⊢
  clear ha hb hN
  have en : ((N : Int) != (N : Int)) = false := by simp
  go_enter Tryd.func17, Tryd.ntmps17
  go_wp2
  go_loopw [5] (fun t wr => ∃ j : Nat, j ≤ N ∧ t = .int .i64 j ∧ Kept (fun _ => False) w wr) (fun t _ => N - (intOf t).toNat)
  case atStart => exact ⟨0, by omega, rfl, Kept.refl _ _⟩
  case round =>
    obtain ⟨j, hj, rfl, hk⟩ := hrel
    have HK := Lib.hid hk
    clear hk
    by_cases hd : j < N
    · have hd' : (j : Int) < (N : Int) := by omega
      have hj0 : (0 : Int) ≤ (j : Int) := by omega
      obtain ⟨a, ai, ci, rfl, h1, h2⟩ := HA.out j hd
      obtain ⟨b, bi, di, rfl, h3, h4⟩ := HB.out j hd
      have g1 := HK.out.cell h1 (fun x => x)
      have g3 := HK.out.cell h3 (fun x => x)
      have q2 := fun n => conv8 (h2.kept (HK.out.drewN n))
      have q4 := fun n => conv8 (h4.kept (HK.out.drewN n))
      obtain ⟨S, hS⟩ : ∃ S, S = strN (L.getD j []) := ⟨_, rfl⟩
      obtain ⟨M, hM⟩ : ∃ M, M = (L.getD j []).length := ⟨_, rfl⟩
      rw [← hS] at q2 q4
      rw [← hM] at q2 q4 g1 g3
      clear h1 h2 h3 h4 hS hM
      go_wp2
      go_quiet (fail)
      go_wp2
      go_roundw
      case rel => exact ⟨j + 1, hd, by go_num, HK.out.drewN _⟩
      case measure => simp [intOf]; omega
    · obtain rfl : j = N := by omega
      go_wp2
      go_ret
      exact ⟨rfl, HK.out⟩
end Go.Proofs.YtficodklidaheaaDoor
