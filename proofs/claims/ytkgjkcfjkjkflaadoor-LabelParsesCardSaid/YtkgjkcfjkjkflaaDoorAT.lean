/- Layer 11: the walk of 'LabelParses'. -/
import Derived.Test.YtkgjkcfjkjkflaaDoorAQ
import Derived.Test.YtkgjkcfjkjkflaaDoorAR
import Derived.Test.YtkgjkcfjkjkflaaDoorAJ
namespace Go.Proofs.YtkgjkcfjkjkflaaDoor
open Go.RowKit
attribute [local go_sem ↓] Go.wp_at_zero Go.wp_at_succ

theorem parseL_few (s : ByteArray) : (parseL s).2.1.length ≤ 4 := by
  cases hN : nameB (headT s) with
  | false => rw [parseL_noName hN]; exact Nat.zero_le _
  | true =>
    by_cases he : (parseL s).2.2.2 = 0
    · obtain ⟨B, e, h4, _⟩ := read_all hN _ _ _ _ (Nat.le_refl _) (DP.start s) (RD.start s) he
      rw [e]
      exact h4
    · rw [parseL_is, if_pos hN] at he ⊢
      by_cases h2 : (prsN (findN s 0 59 + 1) (restT s) (restT s).length).2.2 ≠ 0
      · rw [if_pos h2]; exact Nat.zero_le _
      · rw [if_neg h2] at he; exact absurd rfl he
theorem MineP.cap {W w : World} {a : Option Addr} {n c : Nat} {L : List Pr} (h : MineP W w (.slice a n c) L) : L.length ≤ c := by
  rcases h.own.2 with ⟨_, e⟩ | ⟨g, cap, cur, e, _, _, hn, _⟩
  · omega
  · injection e with e1 e2 e3
    subst e3
    exact hn
theorem nameB_size {s : ByteArray} (h : nameB s = true) : s.size ≤ 32 := (of_decide_eq_true h).1.2
theorem valueB_size {s : ByteArray} (h : valueB s = true) : s.size ≤ 32 := (of_decide_eq_true h).1.2

set_option maxHeartbeats 8000000 in
set_option maxRecDepth 100000 in
theorem parses11_walk0 (s : ByteArray) (W : World) :
    Calls Tryd.prog 4 #[.string s] W fun e w' => e = .returned (.bool true) ∧ Kept (fun _ => False) W w' := by
  have HA := Lib.hid (awake11_any W)
  by_cases h1 : 1000 < s.size
  · have q1 : (1000 : Int) < (s.size : Int) := by omega
    have q2 : decide (1000 < s.size) = true := decide_eq_true h1
    clear h1
    go_enter Tryd.func4, Tryd.ntmps4
    go_wp2_with fail
    refine HA.out.mono ?_
    rintro e w1 ⟨rfl, k1⟩
    go_wp2
    go_ret
    exact ⟨rfl, k1⟩
  have q1 : ¬ (1000 : Int) < (s.size : Int) := by omega
  have q2 : decide (1000 < s.size) = false := decide_eq_false h1
  have HP1 := Lib.hid fun w => parse_any s w (by omega)
  have HP2 := Lib.hid fun w => refParse11_any s w (by omega)
  have hfew := parseL_few s
  have htp : ∀ nm A a, parseL s = (nm, A, a, 0) → textT nm A = (s, 0) := fun nm A a h => text_parse h
  obtain ⟨PL, hPL⟩ : ∃ x, x = parseL s := ⟨_, rfl⟩
  rw [← hPL] at HP1 HP2 hfew htp
  obtain ⟨nm, A, at_, E⟩ := PL
  dsimp only at HP1 HP2 hfew
  have HFEW := Lib.hid hfew
  have HTP : Hid (E = 0 → textT nm A = (s, 0)) := Lib.hid (fun e => htp nm A at_ (by rw [e]))
  have hss : (s.toList == s.toList) = true := beq_iff_eq.2 rfl
  have hnn : (nm.toList == nm.toList) = true := beq_iff_eq.2 rfl
  obtain ⟨n, hn⟩ : ∃ n, n = A.length := ⟨_, rfl⟩
  have HN := Lib.hid hn
  clear hPL hfew htp h1 hn
  go_enter Tryd.func4, Tryd.ntmps4
  go_wp2_with fail
  refine HA.out.mono ?_
  rintro e w1 ⟨rfl, k1⟩
  go_wp2_with fail
  refine (HP1.out w1).mono ?_
  rintro e w2 ⟨v4, rfl, m4⟩
  obtain ⟨a4, c4, e4⟩ := m4.slice
  rw [← HN.out] at e4
  subst e4
  have K2 := k1.trans m4.kept
  have HM4 := Lib.hid m4
  clear m4
  go_wp2_with fail
  refine (HP2.out w2).mono ?_
  rintro e w3 ⟨v5, rfl, m5⟩
  obtain ⟨a5, c5, e5⟩ := m5.slice
  rw [← HN.out] at e5
  subst e5
  have K3 := K2.trans m5.kept
  have HM4b := Lib.hid (HM4.out.on m5.kept)
  have HM5 := Lib.hid m5
  clear m5
  go_upto_region 7 with fail
  obtain ⟨w4, hw4⟩ : ∃ w', w' = w3.alloc (.cells #[.string nm, .slice a5 n c5, .int .i64 (at_ : Int), .int .i64 (E : Int)] 35) := ⟨_, rfl⟩
  obtain ⟨q7, hq7⟩ : ∃ q, q = w3.heap.size := ⟨_, rfl⟩
  rw [← hw4, ← hq7]
  have k4 : Kept (fun _ => False) w3 w4 := by rw [hw4]; exact (Kept.refl _ _).alloc _
  have hg : GB w4 q7 nm (.slice a5 n c5) at_ E := by rw [hw4, hq7]; exact heap_alloc_new w3 _
  have HG := Lib.hid hg
  obtain ⟨b0, b1, b2, b3⟩ := hg.c
  have K4 := K3.trans k4
  have HSA := Lib.hid (refSame11_any a4 a5 c4 c5 A A w4 (HM4b.out.on k4).at_ (HM5.out.on k4).at_ (by have := HFEW.out; omega))
  rw [(sameL_iff A A).2 rfl, ← HN.out] at HSA
  have HPA := Lib.hid (HM4b.out.on k4)
  clear hw4 hq7 hg k4
  go_wp2_with fail
  refine HSA.out.mono ?_
  rintro e w5 ⟨rfl, k5⟩
  clear b0 b1 b2 b3
  obtain ⟨b0, b1, b2, b3⟩ := (HG.out.same k5 (fun x => x)).c
  have K5 := K4.trans k5
  have HPB := Lib.hid (HPA.out.on k5)
  clear k5
  by_cases hE : E = 0
  · subst hE
    have ht := HTP.out rfl
    have hc := checkE_facts (textT_snd' ht)
    have hsh : Sh 1000 A := fun p hp => ⟨by have := nameB_size (hc.2.2.1 p hp).1; omega, by have := valueB_size (hc.2.2.1 p hp).2; omega⟩
    have hnz := nameB_size hc.1
    have HT := Lib.hid (text_any nm a4 c4 A w5 HPB.out.at_ HPB.out.cap (by omega) (by omega) hsh)
    rw [ht, ← HN.out] at HT
    clear ht hc hsh hnz
    go_wp2_with fail
    refine HT.out.mono ?_
    rintro e w6 ⟨rfl, k6⟩
    go_wp2
    go_ret
    exact ⟨rfl, K5.trans k6⟩
  · have qE : ((E : Int) != 0) = true := bneT (by omega)
    clear hE
    go_wp2
    go_ret
    exact ⟨rfl, K5⟩
theorem labelParses_walk (s : ByteArray) (W : World) (_ : s.size ≤ maxLen) (_ : NoTab W) :
    Calls Tryd.prog 4 #[.string s] W fun e w' => e = .returned (.bool true) ∧ Kept (fun _ => False) W w' := parses11_walk0 s W
end Go.Proofs.YtkgjkcfjkjkflaaDoor
