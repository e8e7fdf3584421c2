/- Layer 11: the walk of 'LabelBack' (written by tools/gen_XAL.py). -/
import Derived.Test.YtkgjkcfjkjkflaaDoorAJ
import Derived.Test.YtkgjkcfjkjkflaaDoorAK
namespace Go.Proofs.YtkgjkcfjkjkflaaDoor
open Go.RowKit
attribute [local go_sem ↓] Go.wp_at_zero Go.wp_at_succ

/-- What a right label's text says. -/
theorem textT_right {name : ByteArray} {L : List Pr} {S : ByteArray} (h : textT name L = (S, 0)) : parseL S = (name, sortP L, 0, 0) ∧ S = textN name (sortP L) (sortP L).length ∧ L.length ≤ 4 := by
  have hE : checkE name L = 0 := by rw [← textT_snd, h]
  have hf := checkE_facts hE
  unfold textT at h
  rw [if_neg (fun e => e hE)] at h
  injection h with h _
  rw [← h, ← sortP_length L]
  exact ⟨parse_text hf.1 (by rw [sortP_length]; exact hf.2.1) (fun p hp => hf.2.2.1 p (sortP_mem.1 hp)) (dis_sort hf.2.2.2) (sortP_adj L), rfl, by rw [sortP_length]; exact hf.2.1⟩
theorem textT_wrong {name : ByteArray} {L : List Pr} {S : ByteArray} {E : Nat} (h : textT name L = (S, E)) (hE : E ≠ 0) : S = ByteArray.empty := by
  unfold textT at h
  by_cases h0 : checkE name L = 0
  · rw [if_neg (fun e => e h0)] at h; injection h with _ h; exact absurd h.symm hE
  · rw [if_pos h0] at h; injection h with h _; exact h.symm
theorem text_same {n1 n2 S1 S2 : ByteArray} {L1 L2 : List Pr} (h1 : textT n1 L1 = (S1, 0)) (h2 : textT n2 L2 = (S2, 0)) : (S1.toList == S2.toList) = ((n1.toList == n2.toList) && sameL (sortP L1) (sortP L2)) := by
  obtain ⟨p1, e1, _⟩ := textT_right h1
  obtain ⟨p2, e2, _⟩ := textT_right h2
  rw [beq_bytes, beq_bytes]
  by_cases h : S1 = S2
  · subst h
    rw [p1] at p2
    injection p2 with q1 q2
    injection q2 with q2 _
    subst q1
    rw [← q2, (sameL_iff _ _).2 rfl]
    simp
  · rw [decide_eq_false h]
    by_cases hn : n1 = n2
    · subst hn
      rw [decide_eq_true rfl, Bool.true_and]
      cases hs : sameL (sortP L1) (sortP L2) with
      | false => rfl
      | true => exact absurd (by rw [e1, e2, (sameL_iff _ _).1 hs]) h
    · rw [decide_eq_false hn]; rfl

set_option maxHeartbeats 8000000 in
theorem back11_walk0 (name name2 : ByteArray) (ao bo : Option Addr) (c d : Nat) (L M : List Pr) (W : World) (hn : name.size ≤ 9223372036854775807) (hn2 : name2.size ≤ 9223372036854775807) (hr : PsAt W ao L) (hs : PsAt W bo M) (hc : L.length ≤ c) (hd : M.length ≤ d) (hl : L.length ≤ 9223372036854775807) (hm : M.length ≤ 9223372036854775807) :
    Calls Tryd.prog 5 #[.string name, .slice ao L.length c, .string name2, .slice bo M.length d] W fun e w' => e = .returned (.bool true) ∧ Kept (fun _ => False) W w' := by
  have HA := Lib.hid (awake11_any W)
  by_cases h1 : 100 < name.size
  · have q1 : (100 : Int) < (name.size : Int) := by omega
    have q2 : decide (100 < name.size) = true := decide_eq_true h1
    clear hr hs hc hd hl hm hn hn2 h1
    go_enter Tryd.func5, Tryd.ntmps5
    go_wp2_with fail
    refine HA.out.mono ?_
    rintro e w1 ⟨rfl, k1⟩
    go_wp2
    go_ret
    exact ⟨rfl, k1⟩
  have q1 : ¬ (100 : Int) < (name.size : Int) := by omega
  have q2 : decide (100 < name.size) = false := decide_eq_false h1
  by_cases h2 : 100 < name2.size
  · have q3 : (100 : Int) < (name2.size : Int) := by omega
    have q4 : decide (100 < name2.size) = true := decide_eq_true h2
    clear hr hs hc hd hl hm hn hn2 h1 h2
    go_enter Tryd.func5, Tryd.ntmps5
    go_wp2_with fail
    refine HA.out.mono ?_
    rintro e w1 ⟨rfl, k1⟩
    go_wp2
    go_ret
    exact ⟨rfl, k1⟩
  have q3 : ¬ (100 : Int) < (name2.size : Int) := by omega
  have q4 : decide (100 < name2.size) = false := decide_eq_false h2
  have HL1 := Lib.hid fun w' (k : Kept (fun _ => False) W w') => refLight11_any ao c L w' (hr.kept k) hl
  have HL2 := Lib.hid fun w' (k : Kept (fun _ => False) W w') => refLight11_any bo d M w' (hs.kept k) hm
  cases hlt : lightL L with
  | false =>
    rw [hlt] at HL1
    clear hr hs hc hd hl hm hn hn2 h1 h2 hlt HL2
    go_enter Tryd.func5, Tryd.ntmps5
    go_wp2_with fail
    refine HA.out.mono ?_
    rintro e w1 ⟨rfl, k1⟩
    go_wp2_with fail
    refine (HL1.out w1 k1).mono ?_
    rintro e w' ⟨rfl, rfl⟩
    go_wp2
    go_ret
    exact ⟨rfl, k1⟩
  | true =>
  rw [hlt] at HL1
  cases hlt2 : lightL M with
  | false =>
    rw [hlt2] at HL2
    clear hr hs hc hd hl hm hn hn2 h1 h2 hlt hlt2
    go_enter Tryd.func5, Tryd.ntmps5
    go_wp2_with fail
    refine HA.out.mono ?_
    rintro e w1 ⟨rfl, k1⟩
    go_wp2_with fail
    refine (HL1.out w1 k1).mono ?_
    rintro e w' ⟨rfl, rfl⟩
    go_wp2_with fail
    refine (HL2.out w1 k1).mono ?_
    rintro e w' ⟨rfl, rfl⟩
    go_wp2
    go_ret
    exact ⟨rfl, k1⟩
  | true =>
  rw [hlt2] at HL2
  obtain ⟨hl20, hsh⟩ := lightL_true hlt
  obtain ⟨hm20, hshm⟩ := lightL_true hlt2
  have HT1 := Lib.hid fun w' (k : Kept (fun _ => False) W w') => text_any name ao c L w' (hr.kept k) hc hl (by omega) (hsh.mono (by omega))
  have HT2 := Lib.hid fun w' (k : Kept (fun _ => False) W w') => text_any name2 bo d M w' (hs.kept k) hd hm (by omega) (hshm.mono (by omega))
  have HS1 := Lib.hid fun w' (k : Kept (fun _ => False) W w') => sorted_any ao c L w' (hr.kept k) hl20
  have HS2 := Lib.hid fun w' (k : Kept (fun _ => False) W w') => sorted_any bo d M w' (hs.kept k) hm20
  have hsz1 := textN_size name (sortP L) (sortP L).length (sh_sort (hsh.mono (by omega))) (Nat.le_refl _)
  obtain ⟨T1, hT1⟩ : ∃ t, t = textT name L := ⟨_, rfl⟩
  obtain ⟨T2, hT2⟩ : ∃ t, t = textT name2 M := ⟨_, rfl⟩
  rw [← hT1] at HT1
  rw [← hT2] at HT2
  obtain ⟨S1, E1⟩ := T1
  obtain ⟨S2, E2⟩ := T2
  dsimp only at HT1 HT2
  have HH1 := Lib.hid hT1.symm
  have HH2 := Lib.hid hT2.symm
  obtain ⟨A, hA⟩ : ∃ m, m = sortP L := ⟨_, rfl⟩
  obtain ⟨B, hB⟩ : ∃ m, m = sortP M := ⟨_, rfl⟩
  rw [← hA] at HS1 hsz1
  rw [← hB] at HS2
  have HAL := Lib.hid (show A.length ≤ 20 by rw [hA, sortP_length]; exact hl20)
  have HBL := Lib.hid (show B.length ≤ 20 by rw [hB, sortP_length]; exact hm20)
  have HAE := Lib.hid hA
  have HBE := Lib.hid hB
  have HSZ := Lib.hid (show (textN name A A.length).size ≤ 100000 by have := HAL.out; omega)
  obtain ⟨n, hn'⟩ : ∃ n, n = L.length := ⟨_, rfl⟩
  obtain ⟨m, hm'⟩ : ∃ n, n = M.length := ⟨_, rfl⟩
  rw [← hn'] at HL1 HT1 HS1 ⊢
  rw [← hm'] at HL2 HT2 HS2 ⊢
  clear hr hs hc hd hl hm hn hn2 h1 h2 hlt hlt2 hl20 hsh hm20 hshm hsz1 hT1 hT2 hA hB hn' hm'
  by_cases hE1 : E1 = 0
  · by_cases hE2 : E2 = 0
    · subst hE1
      subst hE2
      have hpt := textT_right HH1.out
      have hts := text_same HH1.out HH2.out
      rw [← HAE.out, ← HBE.out] at hts
      have HP := Lib.hid fun w => parse_any S1 w (by rw [hpt.2.1, ← HAE.out]; exact HSZ.out)
      rw [hpt.1, ← HAE.out] at HP
      have hnn : (name.toList == name.toList) = true := beq_iff_eq.2 rfl
      have HSM := Lib.hid hts
      clear hpt hts
      go_enter Tryd.func5, Tryd.ntmps5
      go_wp2_with fail
      refine HA.out.mono ?_
      rintro e w1 ⟨rfl, k1⟩
      go_wp2_with fail
      refine (HL1.out w1 k1).mono ?_
      rintro e w' ⟨rfl, rfl⟩
      go_wp2_with fail
      refine (HL2.out w1 k1).mono ?_
      rintro e w' ⟨rfl, rfl⟩
      go_wp2_with fail
      refine (HT1.out _ k1).mono ?_
      rintro e w2 ⟨rfl, k2⟩
      have K2 := k1.trans k2
      go_wp2_with fail
      refine (HT2.out _ K2).mono ?_
      rintro e w3 ⟨rfl, k3⟩
      have K3 := K2.trans k3
      go_wp2_with fail
      refine (HP.out _).mono ?_
      rintro e w4 ⟨v4, rfl, m4⟩
      have K4 := K3.trans m4.kept
      obtain ⟨a4, c4, e4⟩ := m4.slice
      subst e4
      have HM4 := Lib.hid m4
      clear m4
      go_wp2_with fail
      refine (HS1.out _ K4).mono ?_
      rintro e w5 ⟨v5, rfl, m5⟩
      have K5 := K4.trans m5.kept
      obtain ⟨a5, c5, e5⟩ := m5.slice
      subst e5
      have HM4b := Lib.hid (HM4.out.on m5.kept)
      have HM5 := Lib.hid m5
      clear m5
      go_wp2_with fail
      refine (HS2.out _ K5).mono ?_
      rintro e w6 ⟨v6, rfl, m6⟩
      have K6 := K5.trans m6.kept
      obtain ⟨a6, c6, e6⟩ := m6.slice
      subst e6
      have HSA := Lib.hid (refSame11_any a4 a5 c4 c5 A A w6 (HM4b.out.on m6.kept).at_ (HM5.out.on m6.kept).at_ (by have := HAL.out; omega))
      rw [(sameL_iff A A).2 rfl] at HSA
      have HSB := Lib.hid fun w' (k : Kept (fun _ => False) w6 w') => refSame11_any a5 a6 c5 c6 A B w' ((HM5.out.on m6.kept).on k).at_ (m6.on k).at_ (by have := HAL.out; omega)
      clear m6
      go_wp2_with fail
      refine HSA.out.mono ?_
      rintro e w7 ⟨rfl, k7⟩
      have K7 := K6.trans k7
      have hsm := HSM.out
      obtain ⟨b1, hb1⟩ : ∃ b, b = (S1.toList == S2.toList) := ⟨_, rfl⟩
      obtain ⟨b2, hb2⟩ : ∃ b, b = (name.toList == name2.toList) := ⟨_, rfl⟩
      obtain ⟨b3, hb3⟩ : ∃ b, b = sameL A B := ⟨_, rfl⟩
      rw [← hb1, ← hb2, ← hb3] at hsm
      rw [← hb3] at HSB
      replace hb1 := hb1.symm
      replace hb2 := hb2.symm
      clear hb3 HSM
      cases b2 with
      | false =>
        rw [Bool.false_and] at hsm
        subst hsm
        go_wp2
        go_ret
        exact ⟨rfl, K7⟩
      | true =>
        rw [Bool.true_and] at hsm
        subst hsm
        go_wp2_with fail
        refine (HSB.out _ k7).mono ?_
        rintro e w8 ⟨rfl, k8⟩
        have hbb : (b1 == b1) = true := by cases b1 <;> rfl
        go_wp2
        go_ret
        exact ⟨by cases b1 <;> rfl, K7.trans k8⟩
    · have qE2 : ((E2 : Int) != 0) = true := bneT (by omega)
      subst hE1
      clear hE2
      go_enter Tryd.func5, Tryd.ntmps5
      go_wp2_with fail
      refine HA.out.mono ?_
      rintro e w1 ⟨rfl, k1⟩
      go_wp2_with fail
      refine (HL1.out w1 k1).mono ?_
      rintro e w' ⟨rfl, rfl⟩
      go_wp2_with fail
      refine (HL2.out w1 k1).mono ?_
      rintro e w' ⟨rfl, rfl⟩
      go_wp2_with fail
      refine (HT1.out _ k1).mono ?_
      rintro e w2 ⟨rfl, k2⟩
      have K2 := k1.trans k2
      go_wp2_with fail
      refine (HT2.out _ K2).mono ?_
      rintro e w3 ⟨rfl, k3⟩
      have K3 := K2.trans k3
      go_wp2
      go_ret
      exact ⟨rfl, K3⟩
  · have qE1 : ((E1 : Int) != 0) = true := bneT (by omega)
    have qE1b : ((E1 : Int) == 0) = false := beqF (by omega)
    have hS : S1 = ByteArray.empty := textT_wrong HH1.out hE1
    have hSe : (S1.toList == ([] : List UInt8)) = true := by rw [hS]; decide +kernel
    clear hE1 hS
    go_enter Tryd.func5, Tryd.ntmps5
    go_wp2_with fail
    refine HA.out.mono ?_
    rintro e w1 ⟨rfl, k1⟩
    go_wp2_with fail
    refine (HL1.out w1 k1).mono ?_
    rintro e w' ⟨rfl, rfl⟩
    go_wp2_with fail
    refine (HL2.out w1 k1).mono ?_
    rintro e w' ⟨rfl, rfl⟩
    go_wp2_with fail
    refine (HT1.out _ k1).mono ?_
    rintro e w2 ⟨rfl, k2⟩
    have K2 := k1.trans k2
    go_wp2_with fail
    refine (HT2.out _ K2).mono ?_
    rintro e w3 ⟨rfl, k3⟩
    have K3 := K2.trans k3
    go_wp2
    go_ret
    exact ⟨rfl, K3⟩
theorem labelBack_walk (name : ByteArray) (ao : Option Addr) (c : Nat) (L : List Pr) (name2 : ByteArray) (bo : Option Addr) (d : Nat) (M : List Pr) (W : World) (hn : name.size ≤ maxLen) (h : PairsIn W ao c L) (hl : L.length ≤ 9223372036854775807) (hn2 : name2.size ≤ maxLen) (h2 : PairsIn W bo d M) (hm : M.length ≤ 9223372036854775807) (_ : NoTab W) :
    Calls Tryd.prog 5 #[.string name, .slice ao L.length c, .string name2, .slice bo M.length d] W fun e w' => e = .returned (.bool true) ∧ Kept (fun _ => False) W w' :=
  back11_walk0 name name2 ao bo c d L M W (by unfold maxLen at hn; omega) (by unfold maxLen at hn2; omega) h.at_ h2.at_ h.cap h2.cap hl hm
end Go.Proofs.YtkgjkcfjkjkflaaDoor

