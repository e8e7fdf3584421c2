/- Layer 1: the walk of 'BitsOpen'. -/
import Derived.Test.YtanhdjdojeoodaaB8
namespace Go.Proofs.Ytanhdjdojeoodaa
open Go.RowKit
attribute [local go_sem ↓] Go.wp_at_zero Go.wp_at_succ

theorem IsRow.slAt8 {w : World} {a : Option Addr} {len cap : Nat} {zs : List Int} (h : IsRow .u8 w a len cap zs) :
    ∃ l : List Nat, l.length = len ∧ (∀ x ∈ l, x < 256) ∧ SlAt w (.slice a len cap) (bys l) := by
  rcases h with ⟨rfl, rfl, rfl, rfl⟩ | ⟨x, rfl, hlc, _, hz, hcell, hwf⟩
  · exact ⟨[], rfl, by simp, ⟨none, 0, rfl, fun _ => rfl, by simp⟩⟩
  · have hb : ∀ n ∈ zs, 0 ≤ n ∧ n < 256 := fun n hn => by
      have := hwf n hn
      simp [Lit.wf, IntKind.min, IntKind.max, IntKind.signed, IntKind.bits] at this
      omega
    refine ⟨(zs.take len).map Int.toNat, by simp; omega, ?_, ⟨some x, cap, ?_, (fun e => by cases e), ?_⟩⟩
    · intro n hn
      obtain ⟨m, hm, rfl⟩ := List.mem_map.1 hn
      have := hb m (List.mem_of_mem_take hm)
      omega
    · rw [bys_length, List.length_map, List.length_take, Nat.min_eq_left (by omega)]
    · intro a ha j u hu
      cases ha
      have hj : j < len := by
        have := (List.getElem?_eq_some_iff.1 hu).1
        simp at this; omega
      have hjz : j < zs.length := by omega
      rw [hcell j hjz, List.getD_eq_getElem?_getD, List.getElem?_eq_getElem hjz]
      simp only [bys, List.map_map, List.getElem?_map, List.getElem?_take, if_pos hj, List.getElem?_eq_getElem hjz, Option.map_some] at hu
      injection hu with hu
      rw [← hu]
      have := hb _ (List.getElem_mem hjz)
      simp only [Function.comp_apply, Option.getD_some]
      congr 2
      omega

theorem openE_bits {l : List Nat} {n : Int} (h : openE l n = 0) : ∃ m : Nat, n = m ∧ m ≤ 8 * l.length := by
  unfold openE at h
  split at h
  · cases h
  · split at h
    · cases h
    · exact ⟨n.toNat, by omega, by omega⟩
theorem openE_le (l : List Nat) (n : Int) : openE l n ≤ 3 := by
  unfold openE; split
  · decide
  · split
    · decide
    · split
      · decide
      · split <;> decide

set_option maxHeartbeats 1000000 in
theorem bitsOpen_walk (a : Option Addr) (len cap : Nat) (zs : List Int) (n : Int) (W : World) (hrow : IsRow .u8 W a len cap zs) (hn : -9223372036854775808 ≤ n ∧ n ≤ 9223372036854775807) :
    Calls Try.prog 4 #[.slice a len cap, .int .i64 n] W fun e w' => e = .returned (.bool true) ∧ Kept (fun _ => False) W w' := by
  obtain ⟨l, rfl, hb, hv⟩ := hrow.slAt8
  have HV := Lib.hid hv
  have HA := Lib.hid (awake1_any W)
  have HBB := Lib.hid hb
  clear hrow hv hb
  by_cases hlen : 200 < l.length
  · have h1 : (200 : Int) < (l.length : Int) := by omega
    go_enter Try.func4, Try.ntmps4
    go_wp2_with fail
    refine HA.out.mono ?_
    rintro e w1 ⟨rfl, K1⟩
    go_wp2
    go_ret
    exact ⟨rfl, K1⟩
  · have h1 : ¬ (200 : Int) < (l.length : Int) := by omega
    have HE := openE_le l n
    by_cases hE : openE l n = 0
    · obtain ⟨m, rfl, hm8⟩ := openE_bits hE
      have hbl : ((bitsOf l).take m).length = m := by rw [List.length_take, bitsOf_length]; omega
      go_enter Try.func4, Try.ntmps4
      go_wp2_with fail
      refine HA.out.mono ?_
      rintro e w1 ⟨rfl, K1⟩
      have hv1 := HV.out.kept K1 (fun _ _ x => x)
      go_wp2_with fail
      refine (bopen_yes _ l m w1 hv1 (by omega) HBB.out hE).mono ?_
      rintro e w2 ⟨p, v2, rfl, HR, K2⟩
      have hv2 := hv1.kept K2 (fun _ _ x => x)
      go_wp2_with fail
      refine (refOpen_any _ l m w2 hv2 (by omega) HBB.out hn.2).mono ?_
      rw [hE]
      rintro e w3 ⟨rfl, K3⟩
      have HR3 := HR.keptF K3
      have hL := bleft_any _ p v2 _ 0 w3 HR3 (by rw [hbl]; omega)
      have hAt := fun q => bat_any _ p v2 _ 0 (w3.drewN q) (HR3.drewN q)
      rw [hbl] at hL
      have HL := Lib.hid hL
      have HAT := Lib.hid hAt
      clear hL hAt hbl hE hm8 HR HR3 hv1 hv2
      go_wp2_with (first | (go_at_call 25; refine HL.out.mono ?_; rintro e w' ⟨rfl, q, rfl⟩) | (go_at_call 26; refine (HAT.out _).mono ?_; rintro e w' ⟨rfl, rfl⟩))
      go_ret
      exact ⟨by simp, ((K1.trans K2).trans K3).drewN _⟩
    · go_enter Try.func4, Try.ntmps4
      go_wp2_with fail
      refine HA.out.mono ?_
      rintro e w1 ⟨rfl, K1⟩
      have hv1 := HV.out.kept K1 (fun _ _ x => x)
      go_wp2_with fail
      refine (bopen_no _ l n w1 hv1 (by omega) hn.2 hE).mono ?_
      rintro e w2 ⟨rfl, rfl⟩
      go_wp2_with fail
      refine (refOpen_any _ l n w1 hv1 (by omega) HBB.out hn.2).mono ?_
      rintro e w3 ⟨rfl, K3⟩
      obtain ⟨E, hEE⟩ : ∃ E, E = openE l n := ⟨_, rfl⟩
      rw [← hEE] at hE ⊢
      have hb1 : ((E : Int) != 0) = true := by rw [bne_iff_ne]; omega
      clear hEE
      go_wp2
      go_ret
      exact ⟨rfl, K1.trans K3⟩
end Go.Proofs.Ytanhdjdojeoodaa
