/- The walk of 'CrcIs'. -/
import Derived.Test.YtanhdjdojeoodaaDoorC9
namespace Go.Proofs.YtanhdjdojeoodaaDoor
open Go.RowKit
attribute [local go_sem ↓] Go.wp_at_zero Go.wp_at_succ

theorem IsRow.row8 {w : World} {a : Option Addr} {len cap : Nat} {zs : List Int} (h : IsRow .u8 w a len cap zs) : ∃ l : List Nat, l.length = len ∧ Row8 w (.slice a l.length cap) l ∧ len ≤ maxLen := by
  rcases h with ⟨rfl, rfl, rfl, rfl⟩ | ⟨x, rfl, hl, hm, hz, hc, hw⟩
  · exact ⟨[], rfl, ⟨none, 0, rfl, by simp, fun j hj => absurd hj (by simp)⟩, by simp [maxLen]⟩
  · have hlen : ((zs.take len).map Int.toNat).length = len := by rw [List.length_map, List.length_take]; omega
    refine ⟨(zs.take len).map Int.toNat, hlen, ⟨some x, cap, rfl, ?_, ?_⟩, by omega⟩
    · intro y hy
      obtain ⟨z, hz2, rfl⟩ := List.mem_map.1 hy
      have := bd_u8 (hw z (List.mem_of_mem_take hz2))
      omega
    · intro j hj
      rw [hlen] at hj
      refine ⟨x, rfl, ?_⟩
      rw [hc j (by omega)]
      have hjz : j < zs.length := by omega
      have hb := bd_u8 (hw zs[j] (List.getElem_mem hjz))
      have e : ((((zs.take len).map Int.toNat).getD j 0 : Nat) : Int) = zs.getD j 0 := by
        simp only [List.getD_eq_getElem?_getD, List.getElem?_map, List.getElem?_take, hj, if_true, List.getElem?_eq_getElem hjz, Option.map_some, Option.getD_some]
        omega
      rw [e]

set_option maxHeartbeats 1000000 in
theorem crcIs_walk (ao : Option Addr) (len cap : Nat) (zs : List Int) (s0 : Int) (W : World) (hrow : IsRow .u8 W ao len cap zs) (hs : 0 ≤ s0 ∧ s0 ≤ 4294967295) (HN : Nibs W) :
    Calls Tryd.prog 3 #[.slice ao len cap, .int .u32 s0] W fun e w' => e = .returned (.bool true) ∧ Kept (fun _ => False) W w' := by
  obtain ⟨s, rfl⟩ : ∃ s : Nat, s0 = s := ⟨s0.toNat, by omega⟩
  obtain ⟨l, rfl, HB, hmx⟩ := hrow.row8
  have HA := Lib.hid (awake_any W HN)
  have hmx' : l.length ≤ 9223372036854775807 := by unfold maxLen at hmx; omega
  clear hrow hmx
  by_cases hbig : 3000 < l.length
  · have hbig' : (3000 : Int) < (l.length : Int) := by omega
    clear HB HN
    go_enter Tryd.func3, Tryd.ntmps3
    go_wp2_with (go_at_call 8; refine HA.out.mono ?_; rintro e w1 ⟨rfl, hk1⟩; have H1 := Lib.hid hk1; clear hk1)
    go_ret
    exact ⟨rfl, H1.out⟩
  · have hsm : (l.length : Int) ≤ 3000 := by omega
    have hb : ∀ x ∈ l, x < 256 := by obtain ⟨_, _, _, hb, _⟩ := HB; exact hb
    have hM := moreN_lt (4294967295 - s) l (by omega) hb
    have e1 : IntKind.u32.wrap (4294967295 - (s : Int)) = ((4294967295 - s : Nat) : Int) := by rw [IntKind.wrap_u32]; omega
    have e2 : IntKind.u32.wrap (4294967295 - ((moreN (4294967295 - s) l : Nat) : Int)) = ((crcMore s l : Nat) : Int) := by rw [IntKind.wrap_u32]; unfold crcMore; omega
    have D1 := Lib.hid (fun w (hk : Kept (fun _ => False) W w) => crcOf_any _ l (by omega) w (HB.kept hk) (HN.kept hk))
    have D2 := Lib.hid (fun w (hk : Kept (fun _ => False) W w) => refOf_any _ l (by omega) w (HB.kept hk))
    have D3 := Lib.hid (fun w (hk : Kept (fun _ => False) W w) => more_any s _ l (by omega) (by omega) w (HB.kept hk) (HN.kept hk))
    have D4 := Lib.hid (fun w (hk : Kept (fun _ => False) W w) => refMore_any (4294967295 - s) _ l (by omega) (by omega) w (HB.kept hk))
    obtain ⟨M, hMe⟩ : ∃ M, M = moreN (4294967295 - s) l := ⟨_, rfl⟩
    obtain ⟨R, hRe⟩ : ∃ R, R = crcMore s l := ⟨_, rfl⟩
    obtain ⟨R0, hR0⟩ : ∃ R0, R0 = crcMore 0 l := ⟨_, rfl⟩
    obtain ⟨S2, hS2⟩ : ∃ S2, S2 = 4294967295 - s := ⟨_, rfl⟩
    rw [← hMe] at e2 D4
    rw [← hRe] at e2 D3
    rw [← hR0] at D1 D2
    rw [← hS2] at e1 D4
    clear hMe hRe hR0 hS2 hM hb HB HN
    go_enter Tryd.func3, Tryd.ntmps3
    go_wp2_with (first
      | (go_at_call 8; refine HA.out.mono ?_; rintro e w1 ⟨rfl, hk1⟩; have H1 := Lib.hid hk1; clear hk1)
      | (go_at_call 9; refine (D1.out _ H1.out).mono ?_; rintro e w' ⟨rfl, rfl⟩)
      | (go_at_call 10; refine (D2.out _ H1.out).mono ?_; rintro e w' ⟨rfl, rfl⟩)
      | (go_at_call 11; refine (D3.out _ H1.out).mono ?_; rintro e w' ⟨rfl, rfl⟩)
      | (go_at_call 12; refine (D4.out _ H1.out).mono ?_; rintro e w' ⟨rfl, rfl⟩))
    go_ret
    exact ⟨by simp, H1.out⟩
end Go.Proofs.YtanhdjdojeoodaaDoor
