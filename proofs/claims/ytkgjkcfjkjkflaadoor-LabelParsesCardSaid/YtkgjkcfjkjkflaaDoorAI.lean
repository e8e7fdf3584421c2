/- Layer 11: awake. -/
import Derived.Test.YtkgjkcfjkjkflaaDoorAH
namespace Go.Proofs.YtkgjkcfjkjkflaaDoor
open Go.RowKit
attribute [local go_sem ↓] Go.wp_at_zero Go.wp_at_succ

theorem aw_text : textT { data := #[99, 112, 117] } [⟨{ data := #[98] }, { data := #[50] }⟩, ⟨{ data := #[97] }, { data := #[49] }⟩] = ({ data := #[99, 112, 117, 59, 97, 61, 49, 59, 98, 61, 50] }, 0) := by decide +kernel
theorem aw_parse : (parseL { data := #[99, 112, 117, 59, 98, 61, 50, 59, 97, 61, 49] }).2.2 = (8, 9) := by decide +kernel
theorem textT_snd (name : ByteArray) (L : List Pr) : (textT name L).2 = checkE name L := by
  unfold textT
  by_cases h : checkE name L = 0
  · rw [if_neg (fun e => e h), h]
  · rw [if_pos h]
def awL : List Pr := [⟨{ data := #[98] }, { data := #[50] }⟩, ⟨{ data := #[97] }, { data := #[49] }⟩]
theorem awL_sh : Sh 1000 awL := by
  intro p hp
  simp only [awL, List.mem_cons, List.not_mem_nil, or_false] at hp
  rcases hp with rfl | rfl <;> exact ⟨by decide, by decide⟩
set_option maxHeartbeats 4000000 in
theorem awake11_any (w : World) :
    Calls Tryd.prog 7 #[] w fun e w' => e = .returned (.bool true) ∧ Kept (fun _ => False) w w' := by
  obtain ⟨w1, hw1⟩ : ∃ w1, w1 = w.alloc (.cells #[.string { data := #[98] }, .string { data := #[50] }, .string { data := #[97] }, .string { data := #[49] }] 40) := ⟨_, rfl⟩
  have k1 : Kept (fun _ => False) w w1 := by rw [hw1]; exact (Kept.refl _ _).alloc _
  have hb : w1.heap[w.heap.size]? = some (.cells #[.string { data := #[98] }, .string { data := #[50] }, .string { data := #[97] }, .string { data := #[49] }] 40 (0, 0)) := by rw [hw1]; exact heap_alloc_new w _
  have hps : PsAt w1 (some ⟨w.heap.size, 0, none⟩) awL := by
    intro _
    refine ⟨w.heap.size, 0, rfl, fun i p hi => ?_⟩
    match i, hi with
    | 0, hi => cases hi; exact ⟨(cell_of_row _ _ 0 _ _ _ hb).trans rfl, (cell_of_row _ _ 1 _ _ _ hb).trans rfl⟩
    | 1, hi => cases hi; exact ⟨(cell_of_row _ _ 2 _ _ _ hb).trans rfl, (cell_of_row _ _ 3 _ _ _ hb).trans rfl⟩
  have ht := text_any { data := #[99, 112, 117] } (some ⟨w.heap.size, 0, none⟩) 2 awL w1 hps (by decide) (by decide) (by decide) awL_sh
  have e1 : textT { data := #[99, 112, 117] } awL = ({ data := #[99, 112, 117, 59, 97, 61, 49, 59, 98, 61, 50] }, 0) := aw_text
  rw [e1, show awL.length = 2 from rfl] at ht
  have HT := Lib.hid ht
  have HP := Lib.hid fun w => parse_any { data := #[99, 112, 117, 59, 98, 61, 50, 59, 97, 61, 49] } w (by decide)
  rw [aw_parse] at HP
  have HW := Lib.hid hw1
  have HK := Lib.hid k1
  clear hw1 k1 hb hps ht e1
  obtain ⟨S1, hS1⟩ : ∃ s : ByteArray, s = { data := #[99, 112, 117, 59, 97, 61, 49, 59, 98, 61, 50] } := ⟨_, rfl⟩
  have hq : (S1.toList == ([99, 112, 117, 59, 97, 61, 49, 59, 98, 61, 50] : List UInt8)) = true := by rw [hS1]; decide +kernel
  rw [← hS1] at HT
  clear hS1
  go_enter Tryd.func7, Tryd.ntmps7
  go_wp2_with fail
  rw [← HW.out]
  refine HT.out.mono ?_
  rintro e w2 ⟨rfl, k2⟩
  go_wp2_with fail
  refine (HP.out w2).mono ?_
  rintro e w3 ⟨v, rfl, hm⟩
  go_wp2
  go_ret
  exact ⟨rfl, (HK.out.trans k2).trans hm.kept⟩

set_option maxHeartbeats 4000000 in
theorem texts11_walk0 (name : ByteArray) (ao : Option Addr) (c : Nat) (L : List Pr) (W : World) (hn : name.size ≤ 9223372036854775807) (hr : PsAt W ao L) (hc : L.length ≤ c) (hl : L.length ≤ 9223372036854775807) :
    Calls Tryd.prog 3 #[.string name, .slice ao L.length c] W fun e w' => e = .returned (.bool true) ∧ Kept (fun _ => False) W w' := by
  have HA := Lib.hid (awake11_any W)
  by_cases h1 : 100 < name.size
  · have q1 : (100 : Int) < (name.size : Int) := by omega
    have q2 : decide (100 < name.size) = true := decide_eq_true h1
    clear hr hc hl hn h1
    go_enter Tryd.func3, Tryd.ntmps3
    go_wp2_with fail
    refine HA.out.mono ?_
    rintro e w1 ⟨rfl, k1⟩
    go_wp2
    go_ret
    exact ⟨rfl, k1⟩
  have q1 : ¬ (100 : Int) < (name.size : Int) := by omega
  have q2 : decide (100 < name.size) = false := decide_eq_false h1
  have HL := Lib.hid fun w' (k : Kept (fun _ => False) W w') => refLight11_any ao c L w' (hr.kept k) hl
  cases hlt : lightL L with
  | false =>
    rw [hlt] at HL
    clear hr hc hl hn h1 hlt
    go_enter Tryd.func3, Tryd.ntmps3
    go_wp2_with fail
    refine HA.out.mono ?_
    rintro e w1 ⟨rfl, k1⟩
    go_wp2_with fail
    refine (HL.out w1 k1).mono ?_
    rintro e w' ⟨rfl, rfl⟩
    go_wp2
    go_ret
    exact ⟨rfl, k1⟩
  | true =>
    rw [hlt] at HL
    obtain ⟨hl20, hsh⟩ := lightL_true hlt
    have hsh1 := hsh.mono (b := 1000) (by omega)
    have hsh2 := hsh.mono (b := 9223372036854775807) (by omega)
    have HT1 := Lib.hid fun w' (k : Kept (fun _ => False) W w') => text_any name ao c L w' (hr.kept k) hc hl (by omega) hsh1
    have HT2 := Lib.hid fun w' (k : Kept (fun _ => False) W w') => refText11_any name ao c L w' (hr.kept k) hl (by omega) hsh1
    have HC := Lib.hid fun w' (k : Kept (fun _ => False) W w') => check_any name ao c L w' (hr.kept k) hc hl hn hsh2
    have HS1 := Lib.hid fun w' (k : Kept (fun _ => False) W w') => sorted_any ao c L w' (hr.kept k) hl20
    have HS2 := Lib.hid fun w' (k : Kept (fun _ => False) W w') => refSorted11_any ao c L w' (hr.kept k) (by omega)
    rw [← textT_snd] at HC
    obtain ⟨T, hT⟩ : ∃ t, t = textT name L := ⟨_, rfl⟩
    rw [← hT] at HT1 HT2 HC
    obtain ⟨S, E⟩ := T
    dsimp only at HT1 HT2 HC
    obtain ⟨M, hM⟩ : ∃ m, m = sortP L := ⟨_, rfl⟩
    rw [← hM] at HS1 HS2
    have HML := Lib.hid (show M.length ≤ 20 by rw [hM, sortP_length]; exact hl20)
    have hq : (S.toList == S.toList) = true := beq_iff_eq.2 rfl
    have hq2 : ((E : Int) == (E : Int)) = true := beqT rfl
    obtain ⟨n, hn'⟩ : ∃ n, n = L.length := ⟨_, rfl⟩
    rw [← hn'] at HL HT1 HT2 HC HS1 HS2 ⊢
    clear hr hc hl hn h1 hlt hl20 hsh hsh1 hsh2 hT hM hn'
    go_enter Tryd.func3, Tryd.ntmps3
    go_wp2_with fail
    refine HA.out.mono ?_
    rintro e w1 ⟨rfl, k1⟩
    go_wp2_with fail
    refine (HL.out w1 k1).mono ?_
    rintro e w' ⟨rfl, rfl⟩
    go_wp2_with fail
    refine (HT1.out _ k1).mono ?_
    rintro e w2 ⟨rfl, k2⟩
    have K2 := k1.trans k2
    go_wp2_with fail
    refine (HT2.out _ K2).mono ?_
    rintro e w3 ⟨rfl, k3⟩
    have K3 := K2.trans k3
    go_wp2_with fail
    refine (HC.out _ K3).mono ?_
    rintro e w4 ⟨rfl, k4⟩
    have K4 := K3.trans k4
    go_wp2_with fail
    refine (HS1.out _ K4).mono ?_
    rintro e w5 ⟨v5, rfl, m5⟩
    have K5 := K4.trans m5.kept
    obtain ⟨a5, c5, e5⟩ := m5.slice
    subst e5
    have HM5 := Lib.hid m5
    clear m5
    go_wp2_with fail
    refine (HS2.out _ K5).mono ?_
    rintro e w6 ⟨v6, rfl, m6⟩
    have K6 := K5.trans m6.kept
    obtain ⟨a6, c6, e6⟩ := m6.slice
    subst e6
    have HSA := Lib.hid (refSame11_any a5 a6 c5 c6 M M w6 (HM5.out.at_.kept m6.kept) m6.at_ (by have := HML.out; omega))
    rw [(sameL_iff M M).2 rfl] at HSA
    clear m6
    go_wp2_with fail
    refine HSA.out.mono ?_
    rintro e w7 ⟨rfl, k7⟩
    go_wp2
    go_ret
    exact ⟨rfl, K6.trans k7⟩
end Go.Proofs.YtkgjkcfjkjkflaaDoor
