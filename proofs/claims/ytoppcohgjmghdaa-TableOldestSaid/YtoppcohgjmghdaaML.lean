/- Layer 14: same. -/
import Derived.Test.YtoppcohgjmghdaaMK
import Derived.Test.YtoppcohgjmghdaaME
import Derived.Test.YtoppcohgjmghdaaMD
namespace Go.Proofs.Ytoppcohgjmghdaa
open Go.RowKit
attribute [local go_sem ↓] Go.wp_at_zero Go.wp_at_succ

theorem dtM_pair {M : List (ByteArray × Th)} (h : M.Pairwise fun a b => a.1 ≠ b.1) : (dtM M).Pairwise fun a b => a.1 ≠ b.1 := mapM_pair (fun q : Th => q.1) h
/-- The keys of a list, rising. -/
def keysD (N : List Dt) : List ByteArray := (srtD N).map (·.1)
theorem keysD_rise (N : List Dt) : (keysD N).Pairwise fun a b => ltN a b = true := by
  unfold keysD; rw [List.pairwise_map]; exact srtD_asc N
theorem keysD_perm {M : List (ByteArray × Th)} (h : M.Pairwise fun a b => a.1 ≠ b.1) : (keysD (dtM M)).Perm (M.map (·.1)) := by
  have := (srtD_perm (dtM_pair h)).map (·.1)
  unfold keysD
  refine this.trans (List.Perm.of_eq ?_)
  unfold dtM
  rw [List.map_map]
  rfl
theorem keysD_len {M : List (ByteArray × Th)} (h : M.Pairwise fun a b => a.1 ≠ b.1) : (keysD (dtM M)).length = M.length := by
  rw [(keysD_perm h).length_eq, List.length_map]
theorem srtD_at {M : List (ByteArray × Th)} (h : M.Pairwise fun a b => a.1 ≠ b.1) {k : ByteArray} {v : Int} (hx : (k, v) ∈ srtD (dtM M)) : (atT M k).1 = v ∧ (getM M k).isSome = true := by
  have h1 := getM_of (srtD_asc (dtM M)).pair hx
  rw [srtD_get (dtM_pair h), dtM_get] at h1
  unfold atT
  cases hg : getM M k with
  | none => rw [hg] at h1; cases h1
  | some q => rw [hg] at h1; injection h1 with h1; exact ⟨h1, rfl⟩
theorem room_eq {most : Int} (hm : I64 most) {n : Nat} (hn : (n : Int) ≤ max 0 most) (h9 : n ≤ 1000000) : max 0 (wrap64 (most - (n : Int))) = max most 0 - (n : Int) := by
  unfold I64 at hm
  by_cases h : most ≤ 0
  · obtain rfl : n = 0 := by omega
    unfold wrap64
    omega
  · unfold wrap64
    omega
set_option maxRecDepth 100000 in
set_option maxHeartbeats 8000000 in
theorem same14_any (base tb mb : Nat) (L M : List (ByteArray × Th)) (most : Int) (p : Nat) (ao : Option Addr) (c : Nat) (w : World) (h : TK base w tb mb L most M p) (hr : GAt cellsDt 2 w ao (dtM M)) (hfit : (M.length : Int) ≤ max 0 most) (h9 : M.length ≤ 1000000) (hsz : ∀ q ∈ M, q.1.size ≤ maxLen) :
    Calls Try.prog 15 #[.pointer (some ⟨tb, 0, none⟩), .slice ao (dtM M).length c, .int .i64 most] w fun e w' => e = .returned (.bool true) ∧ Kept (fun _ => False) w w' := by
  have hp := h.ok.pair
  have HS := Lib.hid (rSorted_any ao c (dtM M) w hr (by rw [dtM_len]; exact h9) (dtM_pair hp))
  obtain ⟨n, hn⟩ : ∃ n, n = M.length := ⟨_, rfl⟩
  have HN := Lib.hid hn
  rw [dtM_len, ← hn] at HS ⊢
  have HH := Lib.hid (And.intro h (And.intro hr (And.intro hsz hp)))
  have HFIT := Lib.hid (show (n : Int) ≤ max 0 most ∧ n ≤ 1000000 ∧ I64 most from ⟨by rw [hn]; exact hfit, by omega, h.mostR⟩)
  have HT := Lib.hid (fun w' (k : Kept (fun _ => False) w w') => h.kept k (fun x => x) (fun x => x))
  have HXL : Hid ((srtD (dtM M)).length = n ∧ (keysD (dtM M)).length = n) := Lib.hid ⟨by rw [srtD_len (dtM_pair hp), dtM_len, hn], by rw [keysD_len hp, hn]⟩
  have HKP := Lib.hid (And.intro (keysD_rise (dtM M)) (keysD_perm hp))
  have HKX : Hid (keysD (dtM M) = (srtD (dtM M)).map (·.1)) := Lib.hid rfl
  have HAT := Lib.hid (fun k v => @srtD_at M hp k v)
  have HMEM : Hid (∀ x ∈ srtD (dtM M), x.1.size ≤ maxLen) := Lib.hid (fun x hx => by
    have h1 := (srtD_perm (dtM_pair hp)).mem_iff.1 hx
    obtain ⟨q, hq, e⟩ := List.mem_map.1 h1
    rw [← e]; exact hsz q hq)
  obtain ⟨X, hX⟩ : ∃ X, X = srtD (dtM M) := ⟨_, rfl⟩
  obtain ⟨K, hK⟩ : ∃ K, K = keysD (dtM M) := ⟨_, rfl⟩
  rw [← hX] at HS HXL HKX HAT HMEM
  rw [← hK] at HXL HKP HKX
  have hroom := room_eq h.mostR (n := n) (by rw [hn]; exact hfit) (by omega)
  obtain ⟨rm, hrm⟩ : ∃ rm, rm = max 0 (wrap64 (most - (n : Int))) := ⟨_, rfl⟩
  have HRM := Lib.hid hrm
  obtain ⟨mm, hmm⟩ : ∃ mm, mm = max most 0 := ⟨_, rfl⟩
  rw [← hrm, ← hmm] at hroom
  have wrm : IntKind.i64.wrap (mm - (n : Int)) = rm := by
    have h1 := h.mostR
    unfold I64 at h1
    rw [hroom, IntWalk.i64_in _ ⟨by omega, by omega⟩]
  have wrm2 : wrap64 (mm - (n : Int)) = rm := by rw [← wrm, IntKind.wrap_i64]; unfold wrap64; omega
  have HMOST := Lib.hid hmm
  clear h hr hfit h9 hsz hp hn hX hK hrm hroom hmm
  by_cases hm0 : most ≤ 0
  · have q0 : decide (most ≤ 0) = true := decide_eq_true hm0
    have e0 : mm = 0 := by have := HMOST.out; omega
    have qm : max most 0 = mm := HMOST.out.symm
    have wrm3 : wrap64 (-(n : Int)) = rm := by rw [← wrm2, e0, Int.zero_sub]
    clear hm0 e0
    go_enter Try.func15, Try.ntmps15
    go_wp2_with fail
    refine HS.out.mono ?_
    rintro e w1 ⟨v1, rfl, hm1⟩
    obtain ⟨xa, xc, rfl⟩ := hm1.slice
    rw [HXL.out.1]
    have HM1 := Lib.hid hm1
    have k1 := hm1.kept
    clear hm1
    go_wp2_with fail
    refine (tKeys_any base tb mb L M most p K HKP.out.1 HKP.out.2 w1 (HT.out w1 k1)).mono ?_
    rintro e w2 ⟨v2, rfl, hm2⟩
    obtain ⟨ya, yc, rfl⟩ := hm2.slice
    rw [show (strs K).length = n by rw [strs_length]; exact HXL.out.2] at hm2 ⊢
    have HM2 := Lib.hid hm2
    have k2 := k1.trans hm2.kept
    clear hm2 k1
    go_wp2_with fail
    refine (tLen_any base tb mb L M most p w2 (HT.out w2 k2)).mono ?_
    rintro e w3 ⟨rfl, rfl⟩
    rw [← HN.out]
    go_wp2_with fail
    refine (tRoom_any base tb mb L M most p w2 (HT.out w2 k2)).mono ?_
    rintro e w3 ⟨rfl, k3⟩
    rw [← HN.out, ← HRM.out]
    have HK3 := Lib.hid (And.intro (k2.trans k3) k3)
    have HGX : Hid (∀ w', Kept (fun _ => False) w3 w' → GAt cellsDt 2 w' xa X) := Lib.hid (fun w' k => (HM1.out.at_ cfDt).kept ((HM2.out.kept.trans k3).trans k))
    have HMY : Hid (∀ w', Kept (fun _ => False) w3 w' → Mine w1 w' 9 (.slice ya n yc) (strs K)) := Lib.hid (fun w' k => HM2.out.on (k3.trans k))
    clear k2 k3
    go_wp2
    go_loopg [9] n (fun g s9 wr => ∃ i : Nat, i ≤ n ∧ g = n - i ∧ s9 = .int .i64 i ∧ Kept (fun _ => False) w3 wr)
    case atStart => exact ⟨0, Nat.zero_le _, rfl, rfl, Kept.refl _ _⟩
    case round =>
      obtain ⟨i, hin, rfl, rfl, hk⟩ := hrel
      have HKR := Lib.hid hk
      by_cases hd : i < n
      · have hdi : (i : Int) < (n : Int) := by omega
        have hdi0 : (0 : Int) ≤ (i : Int) := by omega
        have HI := Lib.hid hd
        obtain ⟨f, hf⟩ : ∃ f, X[i]? = some f := ⟨_, List.getElem?_eq_getElem (by have := HXL.out.1; omega)⟩
        obtain ⟨nm, fv⟩ := f
        have hmem : (nm, fv) ∈ X := List.mem_of_getElem? hf
        obtain ⟨hat1, hat2⟩ := HAT.out nm fv hmem
        have hs := HMEM.out _ hmem
        dsimp only at hs
        have HG := Lib.hid (fun w' (k : Kept (fun _ => False) w3 w') => tGet_any base tb mb L M most p nm hs w' (HT.out w' (HK3.out.1.trans k)))
        rw [hat1, hat2] at HG
        obtain ⟨gx, ox, hgx, hrx⟩ := HGX.out wr hk (by have := HXL.out.1; omega)
        have HRX := Lib.hid (fun w' (k : Kept (fun _ => False) wr w') => And.intro (k.cell (hrx i _ hf 0 (.string nm) rfl) (fun x => x)) (k.cell (hrx i _ hf 1 (.int .i64 fv) rfl) (fun x => x)))
        obtain ⟨gy, oy, hgy, hry⟩ := (HMY.out wr hk).at_.elem (i := i) (u := .string nm) (by unfold strs; rw [List.getElem?_map, HKX.out, List.getElem?_map, hf]; rfl)
        have HRY := Lib.hid (fun w' (k : Kept (fun _ => False) wr w') => k.cell hry (fun x => x))
        have x0 := (HRX.out wr (Kept.refl _ _)).1
        rw [Nat.add_zero] at x0
        have wi : IntKind.i64.wrap ((i : Int) + 1) = ((i + 1 : Nat) : Int) := by have := HFIT.out.2.1; rw [IntWalk.i64_in _ ⟨by omega, by omega⟩]; omega
        subst hgx hgy
        clear hf hmem hat1 hat2 hs hrx hry hin hd hk
        go_wp2_with fail
        refine (HG.out wr HKR.out).mono ?_
        rintro e w4 ⟨rfl, k4⟩
        have k5 : Kept (fun _ => False) wr w4.drew := k4.trans ((Kept.refl _ _).drew)
        obtain ⟨x0, x1⟩ := HRX.out w4.drew k5
        rw [Nat.add_zero] at x0
        have y0 := HRY.out w4.drew k5
        have HK5 := Lib.hid (HKR.out.trans k5)
        clear k4 k5
        go_wp2
        go_region
        go_wp2
        go_roundg (n - (i + 1))
        case measure => have := HI.out; omega
        case rel => exact ⟨i + 1, HI.out, rfl, rfl, HK5.out⟩
      · obtain rfl : i = n := by omega
        have hdi : ¬ (i : Int) < (i : Int) := by omega
        have HO := Lib.hid (tOldest_any base tb mb L M most p wr (HT.out wr (HK3.out.1.trans hk)))
        have HKE := Lib.hid (HK3.out.1.trans hk)
        rw [← HN.out] at HO
        clear hd hin hk
        by_cases hz : i = 0
        · obtain ⟨od, hod⟩ : ∃ od, od = oldT M := ⟨_, rfl⟩
          rw [← hod] at HO
          have hod2 : od = ByteArray.empty := by
            have : M = [] := List.length_eq_zero_iff.1 (by rw [← HN.out]; exact hz)
            rw [hod, this]; rfl
          have q1 : decide (0 < i) = false := decide_eq_false (by omega)
          have q2 : ((i : Int) == 0) = true := beq_iff_eq.2 (by omega)
          rw [q1] at HO
          subst hod2
          have HZ := Lib.hid hz
          clear hod hz q1
          go_wp2_with fail
          refine HO.out.mono ?_
          rintro e w6 ⟨rfl, k6⟩
          have HK6 := Lib.hid (HKE.out.trans k6)
          clear k6
          go_wp2
          go_ret
          exact ⟨rfl, HK6.out⟩
        · have q1 : decide (0 < i) = true := decide_eq_true (by omega)
          have q2 : ((i : Int) == 0) = false := beq_eq_false_iff_ne.2 (by omega)
          rw [q1] at HO
          obtain ⟨od, hod⟩ : ∃ od, od = oldT M := ⟨_, rfl⟩
          rw [← hod] at HO
          obtain ⟨q, hq⟩ : ∃ q, M[0]? = some q := ⟨_, List.getElem?_eq_getElem (by have := HN.out; omega)⟩
          have hqo : od = q.1 := by
            cases M with
            | nil => cases hq
            | cons a r => rw [hod]; injection hq with hq; rw [← hq]; rfl
          have hdq : (dtM M)[0]? = some (q.1, q.2.1) := by unfold dtM; rw [List.getElem?_map, hq]; rfl
          obtain ⟨gg, oo, hga, hrec⟩ := HH.out.2.1 (by rw [dtM_len]; have := HN.out; omega)
          have c0 := hrec 0 _ hdq 0 (.string q.1) rfl
          rw [← hqo] at c0
          simp only [Nat.zero_mul, Nat.add_zero] at c0
          have HC0 := Lib.hid (fun w' (k : Kept (fun _ => False) w w') => k.cell c0 (fun x => x))
          have hi0 : (0 : Int) < (i : Int) := by omega
          have hi0' : 0 < i := by omega
          subst hga
          clear hod hqo hdq hrec c0 hq q1 hz
          go_wp2_with fail
          refine HO.out.mono ?_
          rintro e w6 ⟨rfl, k6⟩
          have HK6 := Lib.hid (HKE.out.trans k6)
          have c0 := HC0.out w6 HK6.out
          clear k6
          go_wp2
          go_ret
          exact ⟨rfl, HK6.out⟩
  · have q0 : decide (most ≤ 0) = false := decide_eq_false hm0
    have e0 : mm = most := by have := HMOST.out; omega
    have qm : max most 0 = mm := HMOST.out.symm
    have wrm3 : wrap64 (most - (n : Int)) = rm := by rw [← wrm2, e0]
    clear hm0 e0
    go_enter Try.func15, Try.ntmps15
    go_wp2_with fail
    refine HS.out.mono ?_
    rintro e w1 ⟨v1, rfl, hm1⟩
    obtain ⟨xa, xc, rfl⟩ := hm1.slice
    rw [HXL.out.1]
    have HM1 := Lib.hid hm1
    have k1 := hm1.kept
    clear hm1
    go_wp2_with fail
    refine (tKeys_any base tb mb L M most p K HKP.out.1 HKP.out.2 w1 (HT.out w1 k1)).mono ?_
    rintro e w2 ⟨v2, rfl, hm2⟩
    obtain ⟨ya, yc, rfl⟩ := hm2.slice
    rw [show (strs K).length = n by rw [strs_length]; exact HXL.out.2] at hm2 ⊢
    have HM2 := Lib.hid hm2
    have k2 := k1.trans hm2.kept
    clear hm2 k1
    go_wp2_with fail
    refine (tLen_any base tb mb L M most p w2 (HT.out w2 k2)).mono ?_
    rintro e w3 ⟨rfl, rfl⟩
    rw [← HN.out]
    go_wp2_with fail
    refine (tRoom_any base tb mb L M most p w2 (HT.out w2 k2)).mono ?_
    rintro e w3 ⟨rfl, k3⟩
    rw [← HN.out, ← HRM.out]
    have HK3 := Lib.hid (And.intro (k2.trans k3) k3)
    have HGX : Hid (∀ w', Kept (fun _ => False) w3 w' → GAt cellsDt 2 w' xa X) := Lib.hid (fun w' k => (HM1.out.at_ cfDt).kept ((HM2.out.kept.trans k3).trans k))
    have HMY : Hid (∀ w', Kept (fun _ => False) w3 w' → Mine w1 w' 9 (.slice ya n yc) (strs K)) := Lib.hid (fun w' k => HM2.out.on (k3.trans k))
    clear k2 k3
    go_wp2
    go_loopg [9] n (fun g s9 wr => ∃ i : Nat, i ≤ n ∧ g = n - i ∧ s9 = .int .i64 i ∧ Kept (fun _ => False) w3 wr)
    case atStart => exact ⟨0, Nat.zero_le _, rfl, rfl, Kept.refl _ _⟩
    case round =>
      obtain ⟨i, hin, rfl, rfl, hk⟩ := hrel
      have HKR := Lib.hid hk
      by_cases hd : i < n
      · have hdi : (i : Int) < (n : Int) := by omega
        have hdi0 : (0 : Int) ≤ (i : Int) := by omega
        have HI := Lib.hid hd
        obtain ⟨f, hf⟩ : ∃ f, X[i]? = some f := ⟨_, List.getElem?_eq_getElem (by have := HXL.out.1; omega)⟩
        obtain ⟨nm, fv⟩ := f
        have hmem : (nm, fv) ∈ X := List.mem_of_getElem? hf
        obtain ⟨hat1, hat2⟩ := HAT.out nm fv hmem
        have hs := HMEM.out _ hmem
        dsimp only at hs
        have HG := Lib.hid (fun w' (k : Kept (fun _ => False) w3 w') => tGet_any base tb mb L M most p nm hs w' (HT.out w' (HK3.out.1.trans k)))
        rw [hat1, hat2] at HG
        obtain ⟨gx, ox, hgx, hrx⟩ := HGX.out wr hk (by have := HXL.out.1; omega)
        have HRX := Lib.hid (fun w' (k : Kept (fun _ => False) wr w') => And.intro (k.cell (hrx i _ hf 0 (.string nm) rfl) (fun x => x)) (k.cell (hrx i _ hf 1 (.int .i64 fv) rfl) (fun x => x)))
        obtain ⟨gy, oy, hgy, hry⟩ := (HMY.out wr hk).at_.elem (i := i) (u := .string nm) (by unfold strs; rw [List.getElem?_map, HKX.out, List.getElem?_map, hf]; rfl)
        have HRY := Lib.hid (fun w' (k : Kept (fun _ => False) wr w') => k.cell hry (fun x => x))
        have x0 := (HRX.out wr (Kept.refl _ _)).1
        rw [Nat.add_zero] at x0
        have wi : IntKind.i64.wrap ((i : Int) + 1) = ((i + 1 : Nat) : Int) := by have := HFIT.out.2.1; rw [IntWalk.i64_in _ ⟨by omega, by omega⟩]; omega
        subst hgx hgy
        clear hf hmem hat1 hat2 hs hrx hry hin hd hk
        go_wp2_with fail
        refine (HG.out wr HKR.out).mono ?_
        rintro e w4 ⟨rfl, k4⟩
        have k5 : Kept (fun _ => False) wr w4.drew := k4.trans ((Kept.refl _ _).drew)
        obtain ⟨x0, x1⟩ := HRX.out w4.drew k5
        rw [Nat.add_zero] at x0
        have y0 := HRY.out w4.drew k5
        have HK5 := Lib.hid (HKR.out.trans k5)
        clear k4 k5
        go_wp2
        go_region
        go_wp2
        go_roundg (n - (i + 1))
        case measure => have := HI.out; omega
        case rel => exact ⟨i + 1, HI.out, rfl, rfl, HK5.out⟩
      · obtain rfl : i = n := by omega
        have hdi : ¬ (i : Int) < (i : Int) := by omega
        have HO := Lib.hid (tOldest_any base tb mb L M most p wr (HT.out wr (HK3.out.1.trans hk)))
        have HKE := Lib.hid (HK3.out.1.trans hk)
        rw [← HN.out] at HO
        clear hd hin hk
        by_cases hz : i = 0
        · obtain ⟨od, hod⟩ : ∃ od, od = oldT M := ⟨_, rfl⟩
          rw [← hod] at HO
          have hod2 : od = ByteArray.empty := by
            have : M = [] := List.length_eq_zero_iff.1 (by rw [← HN.out]; exact hz)
            rw [hod, this]; rfl
          have q1 : decide (0 < i) = false := decide_eq_false (by omega)
          have q2 : ((i : Int) == 0) = true := beq_iff_eq.2 (by omega)
          rw [q1] at HO
          subst hod2
          have HZ := Lib.hid hz
          clear hod hz q1
          go_wp2_with fail
          refine HO.out.mono ?_
          rintro e w6 ⟨rfl, k6⟩
          have HK6 := Lib.hid (HKE.out.trans k6)
          clear k6
          go_wp2
          go_ret
          exact ⟨rfl, HK6.out⟩
        · have q1 : decide (0 < i) = true := decide_eq_true (by omega)
          have q2 : ((i : Int) == 0) = false := beq_eq_false_iff_ne.2 (by omega)
          rw [q1] at HO
          obtain ⟨od, hod⟩ : ∃ od, od = oldT M := ⟨_, rfl⟩
          rw [← hod] at HO
          obtain ⟨q, hq⟩ : ∃ q, M[0]? = some q := ⟨_, List.getElem?_eq_getElem (by have := HN.out; omega)⟩
          have hqo : od = q.1 := by
            cases M with
            | nil => cases hq
            | cons a r => rw [hod]; injection hq with hq; rw [← hq]; rfl
          have hdq : (dtM M)[0]? = some (q.1, q.2.1) := by unfold dtM; rw [List.getElem?_map, hq]; rfl
          obtain ⟨gg, oo, hga, hrec⟩ := HH.out.2.1 (by rw [dtM_len]; have := HN.out; omega)
          have c0 := hrec 0 _ hdq 0 (.string q.1) rfl
          rw [← hqo] at c0
          simp only [Nat.zero_mul, Nat.add_zero] at c0
          have HC0 := Lib.hid (fun w' (k : Kept (fun _ => False) w w') => k.cell c0 (fun x => x))
          have hi0 : (0 : Int) < (i : Int) := by omega
          have hi0' : 0 < i := by omega
          subst hga
          clear hod hqo hdq hrec c0 hq q1 hz
          go_wp2_with fail
          refine HO.out.mono ?_
          rintro e w6 ⟨rfl, k6⟩
          have HK6 := Lib.hid (HKE.out.trans k6)
          have c0 := HC0.out w6 HK6.out
          clear k6
          go_wp2
          go_ret
          exact ⟨rfl, HK6.out⟩
end Go.Proofs.Ytoppcohgjmghdaa
