/- package limnographref30: Encode. -/
import Derived.Test.YtdgpeganmgcjiaaY16
import Derived.Test.YtdgpeganmgcjiaaG3
namespace Go.Proofs.Ytdgpeganmgcjiaa
open Go.RowKit
attribute [local go_sem ↓] Go.wp_at_zero Go.wp_at_succ

theorem fldF_byte (r : FR) (h : r.Ok) (hl : r.b.length ≤ 1000) (hb : badF r = 0) : ∀ x ∈ fldF r, x < 256 := by
  obtain ⟨h1, h2, h3, h4, h5, h6⟩ := badF_zero hb
  intro x hx
  unfold fldF headF bodyF at hx
  rcases List.mem_append.1 hx with hx | hx
  · exact varW_byte _ (by omega) x hx
  · split at hx
    · exact varW_byte _ h.v x hx
    · split at hx
      · exact fixF_byte _ _ x hx
      · rcases List.mem_append.1 hx with hx | hx
        · exact varW_byte _ (by omega) x hx
        · exact h.b x hx

set_option maxHeartbeats 8000000 in
set_option maxRecDepth 100000 in
theorem rEncode_any (ao : Option Addr) (c : Nat) (L : List PR) (w : World) (hr : FldsAt w ao L) (hl : L.length ≤ 1000) (hbl : ∀ p ∈ L, p.r.b.length ≤ 1000) (X : List Nat) (E : Nat) (hE : encE (recsR L) = E) (hX : encB (recsR L) = X) :
    Calls Try.prog 9 #[.slice ao L.length c] w fun e w' => ∃ a c', e = .returned (.tuple #[.slice a X.length c', .int .i64 (E : Int)]) ∧ SlAt w' (.slice a X.length c') (bys X) ∧ Kept (fun _ => False) w w' := by
  have HR := Lib.hid hr
  have HL := Lib.hid hl
  have HBL := Lib.hid hbl
  have HX := Lib.hid (show (E ≠ 0 → X = []) ∧ (E = 0 → X = (recsR L).flatMap fldF) from ⟨fun h => by rw [← hX]; exact encB_bad (by rw [hE]; exact h), fun h => by rw [← hX]; exact encB_ok (by rw [hE]; exact h)⟩)
  obtain ⟨n, hn⟩ : ∃ n, n = L.length := ⟨_, rfl⟩
  have HN := Lib.hid hn
  have HE := Lib.hid hE
  have hl9 : (n : Int) ≤ 1000 := by omega
  have H0 : Hid (ByteArray.mk #[] = strN []) := Lib.hid rfl
  rw [← hn]
  clear hr hl hbl hn hX hE
  go_enter Try.func9, Try.ntmps9
  go_wp2
  go_loopg [4, 5] n (fun x s4 s5 wr => ∃ (i : Nat), i ≤ n ∧ x = n - i ∧ s5 = .int .i64 i ∧ encE (recsR (L.drop i)) = E ∧ s4 = .string (strN ((recsR (L.take i)).flatMap fldF)) ∧ Kept (fun _ => False) w wr)
  case atStart => exact ⟨0, Nat.zero_le _, rfl, rfl, by simpa using HE.out, rfl, Kept.refl _ _⟩
  case round =>
    obtain ⟨i, hin, rfl, rfl, hen, rfl, hm⟩ := hrel
    have HM := Lib.hid hm
    have HEN := Lib.hid hen
    have HAL := Lib.hid (show ((recsR (L.take i)).flatMap fldF).length ≤ 1000 * 1020 by
      have h1 := flat_length (recsR (L.take i)) 1000 (fun r hr => by
        obtain ⟨p, hp, rfl⟩ := List.mem_map.1 hr
        exact HBL.out p (List.mem_of_mem_take hp))
      have h2 : (recsR (L.take i)).length ≤ 1000 := by unfold recsR; rw [List.length_map]; have := List.length_take_le i L; omega
      have h3 := Nat.mul_le_mul_right (20 + 1000) h2
      omega)
    obtain ⟨D, hD⟩ : ∃ D, D = (recsR (L.take i)).flatMap fldF := ⟨_, rfl⟩
    have HD := Lib.hid hD
    rw [← hD] at HAL ⊢
    obtain ⟨S0, hS0⟩ : ∃ s, s = strN D := ⟨_, rfl⟩
    have HS0 := Lib.hid hS0
    rw [← hS0]
    clear hen hm hD hS0
    by_cases hd : i < n
    · obtain ⟨g, o, p, rfl, hi, hat, hok⟩ := (HR.out.kept HM.out).get (i := i) (by have := HN.out; omega)
      have hc0 := hat.c0
      have hc1 := hat.c1
      have hc2 := hat.c2
      have hc3 := hat.c3
      have hpm : p ∈ L := List.mem_of_getElem? hi
      have HPL := Lib.hid (HBL.out p hpm)
      have hrd := recsR_drop L i p hi
      have hrt := recsR_take L i p hi
      have hen := HEN.out
      rw [hrd] at hen
      simp only [encE] at hen
      have HOK := Lib.hid ((HR.out.ok p hpm))
      have HRT := Lib.hid (show (recsR (L.take (i + 1))).flatMap fldF = D ++ fldF p.r by rw [hrt, List.flatMap_append, HD.out]; simp)
      have HIN := Lib.hid hd
      have hdi : (i : Int) < (n : Int) := by omega
      have hdi0 : (0 : Int) ≤ (i : Int) := by omega
      have cA := badF_A p.r
      have cB := badF_B p.r
      have cC := badF_C p.r
      have cD := badF_D p.r
      obtain ⟨B, hB⟩ : ∃ B, B = badF p.r := ⟨_, rfl⟩
      rw [← hB] at hen cA cB cC cD
      obtain ⟨pn, hpn⟩ : ∃ x, x = p.r.num := ⟨_, rfl⟩
      obtain ⟨pt, hpt⟩ : ∃ x, x = p.r.ty := ⟨_, rfl⟩
      obtain ⟨pv, hpv⟩ : ∃ x, x = p.r.v := ⟨_, rfl⟩
      obtain ⟨pa, hpa⟩ : ∃ x, x = p.a := ⟨_, rfl⟩
      obtain ⟨pc, hpc⟩ : ∃ x, x = p.c := ⟨_, rfl⟩
      obtain ⟨pl, hpl⟩ : ∃ x, x = p.r.b.length := ⟨_, rfl⟩
      rw [← hpn] at hc0 cA cB cC cD
      rw [← hpt] at hc1 cB cC cD
      rw [← hpv] at hc2 cC cD
      rw [← hpa, ← hpc, ← hpl] at hc3
      rw [← hpl] at cC cD
      have HPP := Lib.hid (And.intro hpn (And.intro hpt (And.intro hpv (And.intro hpa (And.intro hpc hpl)))))
      have HST : Hid ((wr.alloc (.cells #[.int .i64 pn, .int .i64 pt, .int .u64 (pv : Int), .slice pa pl pc] 40)).heap[wr.heap.size]? = some (.cells #[.int .i64 pn, .int .i64 pt, .int .u64 (pv : Int), .slice pa pl pc] 40 (0, 0))) := Lib.hid (heap_alloc_new wr _)
      have HKB := Lib.hid (HM.out.alloc (.cells #[.int .i64 pn, .int .i64 pt, .int .u64 (pv : Int), .slice pa pl pc] 40))
      obtain ⟨wb, hwb⟩ : ∃ wb, wb = wr.alloc (.cells #[.int .i64 pn, .int .i64 pt, .int .u64 (pv : Int), .slice pa pl pc] 40) := ⟨_, rfl⟩
      rw [← hwb] at HST HKB
      have HWE := Lib.hid hwb
      obtain ⟨q, hq⟩ : ∃ q, q = wr.heap.size := ⟨_, rfl⟩
      rw [← hq] at HST
      have HQ := Lib.hid hq
      clear hat hok hpm hi hrd hrt hB hpn hpt hpv hpa hpc hpl hwb hq hd hin
      by_cases h1 : pn < 1 ∨ 536870911 < pn
      · obtain rfl := cA h1
        rw [if_pos (by decide)] at hen
        have HEB := Lib.hid hen
        clear hen cA cB cC cD
        rcases (show pn < 1 ∨ ¬ pn < 1 ∧ 536870911 < pn by omega) with q1 | ⟨q1, q2⟩ <;> clear h1 <;>
        · go_upto_region 6 with fail
          rw [← HWE.out, ← HQ.out]
          have hbx := box4 HST.out
          go_wp2
          go_ret2
          have h := HX.out.1 (by rw [← HEB.out]; decide)
          subst h
          have h := HEB.out
          subst h
          exact ⟨none, 0, rfl, (Mine.nil wb 5).at_, HKB.out⟩
      · have q1 : ¬ pn < 1 := by omega
        have q2 : ¬ 536870911 < pn := by omega
        by_cases h2 : pt < 0 ∨ 2 < pt
        · obtain rfl := cB h1 h2
          rw [if_pos (by decide)] at hen
          have HEB := Lib.hid hen
          clear hen cA cB cC cD
          clear h1
          rcases (show pt < 0 ∨ ¬ pt < 0 ∧ 2 < pt by omega) with q3 | ⟨q3, q4⟩ <;> clear h2 <;>
          · go_upto_region 6 with fail
            rw [← HWE.out, ← HQ.out]
            have hbx := box4 HST.out
            go_wp2
            go_ret2
            have h := HX.out.1 (by rw [← HEB.out]; decide)
            subst h
            have h := HEB.out
            subst h
            exact ⟨none, 0, rfl, (Mine.nil wb 5).at_, HKB.out⟩
        · have q3 : ¬ pt < 0 := by omega
          have q4 : ¬ 2 < pt := by omega
          by_cases h3 : (pt = 2 ∧ pv ≠ 0) ∨ (pt ≠ 2 ∧ 0 < pl)
          · obtain rfl := cC h1 h2 h3
            rw [if_pos (by decide)] at hen
            have HEB := Lib.hid hen
            clear hen cA cB cC cD
            clear h1 h2
            rcases (show ((pt == 2) = true ∧ ¬ pt < 2 ∧ ((pv : Int) != 0) = true) ∨ ((pt == 2) = false ∧ pt < 2 ∧ (0 : Int) < (pl : Int)) by
              rcases h3 with ⟨a, b⟩ | ⟨a, b⟩
              · exact .inl ⟨beqT a, by omega, bneT (by omega)⟩
              · exact .inr ⟨beqF a, by omega, by omega⟩) with ⟨r1, r2, r3⟩ | ⟨r1, r2, r3⟩ <;> clear h3 <;>
            · go_upto_region 6 with fail
              rw [← HWE.out, ← HQ.out]
              have hbx := box4 HST.out
              go_wp2
              go_ret2
              have h := HX.out.1 (by rw [← HEB.out]; decide)
              subst h
              have h := HEB.out
              subst h
              exact ⟨none, 0, rfl, (Mine.nil wb 5).at_, HKB.out⟩
          · obtain rfl := cD h1 h2 h3
            rw [if_neg (by decide)] at hen
            have HEB := Lib.hid hen
            clear cA cB cC cD hen
            obtain ⟨NN, hNN⟩ : ∃ k : Nat, pn = (k : Int) := ⟨pn.toNat, by omega⟩
            obtain ⟨TT, hTT⟩ : ∃ k : Nat, pt = (k : Int) := ⟨pt.toNat, by omega⟩
            obtain ⟨X8, hX8⟩ : ∃ x, x = NN * 8 + TT := ⟨_, rfl⟩
            have HXX := Lib.hid (show p.r.num.toNat * 8 + p.r.ty.toNat = X8 by rw [← HPP.out.1, ← HPP.out.2.1, hNN, hTT, hX8]; simp)
            have HXB := Lib.hid (show X8 < 18446744073709551616 by omega)
            have HVB := Lib.hid (show pv < 18446744073709551616 by rw [HPP.out.2.2.1]; exact HOK.out.v)
            have HTY := Lib.hid (show p.r.ty = (TT : Int) by rw [← HPP.out.2.1, hTT])
            have m1 : (NN : Int) * 8 + (TT : Int) = (X8 : Int) := by omega
            have m2 : IntKind.u64.wrap (NN : Int) = (NN : Int) := by rw [IntKind.wrap_u64]; omega
            have m3 : IntKind.u64.wrap (TT : Int) = (TT : Int) := by rw [IntKind.wrap_u64]; omega
            have m4 : IntKind.u64.wrap ((NN : Int) * 8) = (NN : Int) * 8 := by rw [IntKind.wrap_u64]; omega
            have m5 : IntKind.u64.wrap (X8 : Int) = (X8 : Int) := by rw [IntKind.wrap_u64]; omega
            have QA1 : ∀ w, (Op.stringOp .add S0 (strN (varW X8))).run Try.prog w = .ok (.string (strN (D ++ varW X8))) w := fun w => by
              rw [HS0.out]; exact strN_add w _ _ (by have := HAL.out; have := (varW_le X8).2; omega)
            obtain ⟨SV, hSV⟩ : ∃ s, s = strN (varW X8) := ⟨_, rfl⟩
            obtain ⟨S1, hS1⟩ : ∃ s, s = strN (D ++ varW X8) := ⟨_, rfl⟩
            rw [← hSV, ← hS1] at QA1
            have HSV := Lib.hid hSV
            have HS1 := Lib.hid hS1
            have h1' : 1 ≤ NN := by omega
            have h2' : NN ≤ 536870911 := by omega
            have h3' : TT ≤ 2 := by omega
            have HB3 := Lib.hid h3
            subst hNN hTT
            clear h1 h2 h3 hX8 hSV hS1
            have hT3 : TT = 0 ∨ TT = 1 ∨ TT = 2 := by omega
            rcases hT3 with h0 | h0 | h0
            · have a0 : ((TT : Int) == 0) = true := beqT (by omega)
              have a1 : ((TT : Int) == 1) = false := beqF (by omega)
              have a2 : ((TT : Int) == 2) = false := beqF (by omega)
              have r2 : (TT : Int) < 2 := by omega
              have r3 : ¬ (0 : Int) < (pl : Int) := fun h => HB3.out (.inr ⟨by omega, by omega⟩)
              have HT := Lib.hid h0
              clear h0
              have QA2 : ∀ w, (Op.stringOp .add S1 (strN (varW pv))).run Try.prog w = .ok (.string (strN (D ++ varW X8 ++ varW pv))) w := fun w => by
                rw [HS1.out]; exact strN_add w _ _ (by rw [List.length_append]; have := HAL.out; have := (varW_le X8).2; have := (varW_le pv).2; omega)
              obtain ⟨SP, hSP⟩ : ∃ s, s = strN (varW pv) := ⟨_, rfl⟩
              obtain ⟨S2, hS2⟩ : ∃ s, s = strN (D ++ varW X8 ++ varW pv) := ⟨_, rfl⟩
              rw [← hSP, ← hS2] at QA2
              have HSP := Lib.hid hSP
              have HS2 := Lib.hid hS2
              clear hSP hS2
              go_upto_region 6 with fail
              rw [← HWE.out, ← HQ.out]
              have hbx := box4 HST.out
              go_wp2_with fail
              refine (rvar_any X8 HXB.out _).mono ?_
              rintro e w2 ⟨a1, c1, rfl, hm1⟩
              have HST2 := Lib.hid (hm1.kept.same HST.out (fun x => x))
              have q1 := mine_conv hm1
              rw [← HSV.out] at q1
              have HK2 := Lib.hid (HKB.out.trans hm1.kept)
              have hbx2 := box4 HST2.out
              clear hbx hm1
              go_wp2_with fail
              refine (rvar_any pv HVB.out _).mono ?_
              rintro e w3 ⟨a2, c2, rfl, hm2⟩
              have HST3 := Lib.hid (hm2.kept.same HST2.out (fun x => x))
              have q2 := mine_conv hm2
              rw [← HSP.out] at q2
              have HK9 := Lib.hid (HK2.out.trans hm2.kept)
              have hbx3 := box4 HST3.out
              clear hbx2 hm2 q1
              go_wp2
              go_roundg (n - (i + 1))
              case measure => have := HIN.out; omega
              case rel => exact ⟨i + 1, HIN.out, rfl, by go_num, HEB.out, by
                rw [HRT.out, fldF_0 _ _ HXX.out (by rw [HTY.out, HT.out]; rfl), ← List.append_assoc, ← HPP.out.2.2.1, HS2.out], by exact HK9.out⟩
            · have a0 : ((TT : Int) == 0) = false := beqF (by omega)
              have a1 : ((TT : Int) == 1) = true := beqT (by omega)
              have a2 : ((TT : Int) == 2) = false := beqF (by omega)
              have r2 : (TT : Int) < 2 := by omega
              have r3 : ¬ (0 : Int) < (pl : Int) := fun h => HB3.out (.inr ⟨by omega, by omega⟩)
              have HT := Lib.hid h0
              clear h0
              have QA2 : ∀ w, (Op.stringOp .add S1 (strN (fixW pv))).run Try.prog w = .ok (.string (strN (D ++ varW X8 ++ fixW pv))) w := fun w => by
                rw [HS1.out]; exact strN_add w _ _ (by rw [List.length_append]; unfold fixW; rw [fixF_length]; have := HAL.out; have := (varW_le X8).2; omega)
              obtain ⟨SP, hSP⟩ : ∃ s, s = strN (fixW pv) := ⟨_, rfl⟩
              obtain ⟨S2, hS2⟩ : ∃ s, s = strN (D ++ varW X8 ++ fixW pv) := ⟨_, rfl⟩
              rw [← hSP, ← hS2] at QA2
              have HSP := Lib.hid hSP
              have HS2 := Lib.hid hS2
              have HFX := Lib.hid (rfix_any pv HVB.out)
              rw [← hSP] at HFX
              clear hSP hS2
              go_upto_region 6 with fail
              rw [← HWE.out, ← HQ.out]
              have hbx := box4 HST.out
              go_wp2_with fail
              refine (rvar_any X8 HXB.out _).mono ?_
              rintro e w2 ⟨a1, c1, rfl, hm1⟩
              have HST2 := Lib.hid (hm1.kept.same HST.out (fun x => x))
              have q1 := mine_conv hm1
              rw [← HSV.out] at q1
              have HK2 := Lib.hid (HKB.out.trans hm1.kept)
              have hbx2 := box4 HST2.out
              clear hbx hm1
              go_wp2_with fail
              refine (HFX.out _).mono ?_
              rintro e w3 ⟨rfl, hm2⟩
              have HST3 := Lib.hid (hm2.same HST2.out (fun x => x))
              have HK9 := Lib.hid (HK2.out.trans hm2)
              have hbx3 := box4 HST3.out
              clear hbx2 hm2 q1
              go_wp2
              go_roundg (n - (i + 1))
              case measure => have := HIN.out; omega
              case rel => exact ⟨i + 1, HIN.out, rfl, by go_num, HEB.out, by
                rw [HRT.out, fldF_1 _ _ HXX.out (by rw [HTY.out, HT.out]; rfl), ← List.append_assoc, ← HPP.out.2.2.1, HS2.out], by exact HK9.out⟩
            · have a0 : ((TT : Int) == 0) = false := beqF (by omega)
              have a1 : ((TT : Int) == 1) = false := beqF (by omega)
              have a2 : ((TT : Int) == 2) = true := beqT (by omega)
              have r2 : ¬ (TT : Int) < 2 := by omega
              have hpv0 : pv = 0 := by
                by_cases h : pv = 0
                · exact h
                · exact absurd (.inl ⟨by omega, h⟩) HB3.out
              have r3 : ((pv : Int) != 0) = false := bneF (by omega)
              have HPL1 := Lib.hid (show pl ≤ 1000 by have := HPL.out; have := HPP.out.2.2.2.2.2; omega)
              have hpl9 : (pl : Int) ≤ 1000 := by have := HPL1.out; omega
              have HCV := Lib.hid fun w' (k : Kept (fun _ => False) w w') => (HOK.out.by_.kept k).conv
              rw [← HPP.out.2.2.2.1, ← HPP.out.2.2.2.2.1, ← HPP.out.2.2.2.2.2] at HCV
              have QA2 : ∀ w, (Op.stringOp .add S1 (strN (varW pl))).run Try.prog w = .ok (.string (strN (D ++ varW X8 ++ varW pl))) w := fun w => by
                rw [HS1.out]; exact strN_add w _ _ (by rw [List.length_append]; have := HAL.out; have := (varW_le X8).2; have := (varW_le pl).2; omega)
              have QA3 : ∀ w, (Op.stringOp .add (strN (D ++ varW X8 ++ varW pl)) (strN p.r.b)).run Try.prog w = .ok (.string (strN (D ++ varW X8 ++ varW pl ++ p.r.b))) w := fun w => by
                exact strN_add w _ _ (by rw [List.length_append, List.length_append]; have := HAL.out; have := (varW_le X8).2; have := (varW_le pl).2; have := HPL.out; omega)
              obtain ⟨SP, hSP⟩ : ∃ s, s = strN (varW pl) := ⟨_, rfl⟩
              obtain ⟨S2, hS2⟩ : ∃ s, s = strN (D ++ varW X8 ++ varW pl) := ⟨_, rfl⟩
              obtain ⟨SB, hSB⟩ : ∃ s, s = strN p.r.b := ⟨_, rfl⟩
              obtain ⟨S3, hS3⟩ : ∃ s, s = strN (D ++ varW X8 ++ varW pl ++ p.r.b) := ⟨_, rfl⟩
              rw [← hSP, ← hS2] at QA2
              rw [← hS2, ← hSB, ← hS3] at QA3
              rw [← hSB] at HCV
              have HSP := Lib.hid hSP
              have HS3' := Lib.hid hS3
              have HT := Lib.hid h0
              have m6 : IntKind.u64.wrap (pl : Int) = (pl : Int) := by rw [IntKind.wrap_u64]; omega
              clear hSP hS2 hSB hS3 h0 hpv0
              go_upto_region 6 with fail
              rw [← HWE.out, ← HQ.out]
              have hbx := box4 HST.out
              go_wp2_with fail
              refine (rvar_any X8 HXB.out _).mono ?_
              rintro e w2 ⟨a1, c1, rfl, hm1⟩
              have HST2 := Lib.hid (hm1.kept.same HST.out (fun x => x))
              have q1 := mine_conv hm1
              rw [← HSV.out] at q1
              have HK2 := Lib.hid (HKB.out.trans hm1.kept)
              have hbx2 := box4 HST2.out
              clear hbx hm1
              go_upto_region 18 with fail
              refine AnyBut.start (S := fun w' => w'.cell? ⟨q, 3, none⟩ = some (.slice pa pl pc) ∧ (convert 25 9 (.slice pa pl pc)).run Try.prog w' = .ok (.string SB) w') (k := 13) (by kernel_rfl) ?_
              obtain ⟨wd, hwd⟩ : ∃ w', w' = w2.drew := ⟨_, rfl⟩
              have HKD := Lib.hid (Kept.refl (fun _ => False) w2).drew
              rw [← hwd] at HKD ⊢
              have HSD : Hid ((fun w' => w'.cell? ⟨q, 3, none⟩ = some (.slice pa pl pc) ∧ (convert 25 9 (.slice pa pl pc)).run Try.prog w' = .ok (.string SB) w') wd) := Lib.hid ⟨(box4 (HKD.out.same HST2.out (fun x => x))).1.2.2.2, HCV.out _ (HK2.out.trans HKD.out)⟩
              clear hwd hbx2 q1
              refine AnyBut.takeS (i := 0) (v := ?v1) rfl (by kernel_rfl) (Nat.le_of_eq (by kernel_rfl)) (by kernel_rfl) (by kernel_rfl) (fun _ _ _ h => h) (HSD.out) (Or.inl ⟨by kernel_rfl, ?hy1⟩) ?r1
              case hy1 =>
                intro w hSw
                try dsimp only at hSw
                go_simp
                try with_reducible rfl
              try simp only [Act.put, List.getElem_toArray, List.getElem_cons_zero, List.setIfInBounds_toArray, List.set_cons_zero, List.set_cons_succ]
              refine AnyBut.takeS (i := 1) (v := ?v2) rfl (by kernel_rfl) (Nat.le_of_eq (by kernel_rfl)) (by kernel_rfl) (by kernel_rfl) (fun _ _ _ h => h) (HSD.out) (Or.inl ⟨by kernel_rfl, ?hy2⟩) ?r2
              case hy2 =>
                intro w hSw
                try dsimp only at hSw
                go_simp
                try with_reducible rfl
              try simp only [Act.put, List.getElem_toArray, List.getElem_cons_succ, List.getElem_cons_zero, List.setIfInBounds_toArray, List.set_cons_zero, List.set_cons_succ]
              refine AnyBut.takeS (i := 2) (v := ?v3) rfl (by kernel_rfl) (Nat.le_of_eq (by kernel_rfl)) (by kernel_rfl) (by kernel_rfl) (fun _ _ _ h => h) (HSD.out) (Or.inl ⟨by kernel_rfl, ?hy3⟩) ?r3
              case hy3 =>
                intro w hSw
                try dsimp only at hSw
                go_simp
                try with_reducible rfl
              try simp only [Act.put, List.getElem_toArray, List.getElem_cons_succ, List.getElem_cons_zero, List.setIfInBounds_toArray, List.set_cons_zero, List.set_cons_succ]
              refine AnyBut.takeS (i := 3) (v := ?v4) rfl (by kernel_rfl) (Nat.le_of_eq (by kernel_rfl)) (by kernel_rfl) (by kernel_rfl) (fun _ _ _ h => h) (HSD.out) (Or.inl ⟨by kernel_rfl, ?hy4⟩) ?r4
              case hy4 =>
                intro w hSw
                try dsimp only at hSw
                go_simp
                try with_reducible rfl
              try simp only [Act.put, List.getElem_toArray, List.getElem_cons_succ, List.getElem_cons_zero, List.setIfInBounds_toArray, List.set_cons_zero, List.set_cons_succ]
              refine AnyBut.takeS (i := 4) (v := ?v5) rfl (by kernel_rfl) (Nat.le_of_eq (by kernel_rfl)) (by kernel_rfl) (by kernel_rfl) (fun _ _ _ h => h) (HSD.out) (Or.inl ⟨by kernel_rfl, ?hy5⟩) ?r5
              case hy5 =>
                intro w hSw
                try dsimp only at hSw
                go_simp
                try with_reducible rfl
              try simp only [Act.put, List.getElem_toArray, List.getElem_cons_succ, List.getElem_cons_zero, List.setIfInBounds_toArray, List.set_cons_zero, List.set_cons_succ]
              refine AnyBut.takeS (i := 8) (v := ?v6) rfl (by kernel_rfl) (Nat.le_of_eq (by kernel_rfl)) (by kernel_rfl) (by kernel_rfl) (fun _ _ _ h => h) (HSD.out) (Or.inl ⟨by kernel_rfl, ?hy6⟩) ?r6
              case hy6 =>
                intro w hSw
                try dsimp only at hSw
                go_simp
                try with_reducible rfl
              try simp only [Act.put, List.getElem_toArray, List.getElem_cons_succ, List.getElem_cons_zero, List.setIfInBounds_toArray, List.set_cons_zero, List.set_cons_succ]
              refine AnyBut.takeS (i := 9) (v := ?v7) rfl (by kernel_rfl) (Nat.le_of_eq (by kernel_rfl)) (by kernel_rfl) (by kernel_rfl) (fun _ _ _ h => h) (HSD.out) (Or.inl ⟨by kernel_rfl, ?hy7⟩) ?r7
              case hy7 =>
                intro w hSw
                try dsimp only at hSw
                go_simp
                try with_reducible rfl
              try simp only [Act.put, List.getElem_toArray, List.getElem_cons_succ, List.getElem_cons_zero, List.setIfInBounds_toArray, List.set_cons_zero, List.set_cons_succ]
              refine AnyBut.takeS (i := 10) (v := ?v8) rfl (by kernel_rfl) (Nat.le_of_eq (by kernel_rfl)) (by kernel_rfl) (by kernel_rfl) (fun _ _ _ h => h) (HSD.out) (Or.inl ⟨by kernel_rfl, ?hy8⟩) ?r8
              case hy8 =>
                intro w hSw
                try dsimp only at hSw
                go_simp
                try with_reducible rfl
              try simp only [Act.put, List.getElem_toArray, List.getElem_cons_succ, List.getElem_cons_zero, List.setIfInBounds_toArray, List.set_cons_zero, List.set_cons_succ]
              refine AnyBut.one (i := 5) (by kernel_rfl) rfl (fun K hK => ?_)
              go_simp
              go_wp2_with fail
              refine (rvar_any pl (by have := HPL1.out; omega) _).mono ?_
              rintro e w3 ⟨a2, c2, rfl, hm2⟩
              have HK9 := Lib.hid ((HK2.out.trans HKD.out).trans hm2.kept)
              have HS3 : Hid ((fun w' => w'.cell? ⟨q, 3, none⟩ = some (.slice pa pl pc) ∧ (convert 25 9 (.slice pa pl pc)).run Try.prog w' = .ok (.string SB) w') w3) := Lib.hid ⟨(box4 (hm2.kept.same (HKD.out.same HST2.out (fun x => x)) (fun x => x))).1.2.2.2, HCV.out _ HK9.out⟩
              have hcv := mine_conv hm2
              rw [← HSP.out] at hcv
              clear hm2
              go_wp2
              refine hK.out _ _ (HS3.out) ?_
              clear hK K
              try simp only [Act.put, List.getElem_toArray, List.getElem_cons_succ, List.getElem_cons_zero, List.setIfInBounds_toArray, List.set_cons_zero, List.set_cons_succ]
              refine AnyBut.one (i := 6) (by kernel_rfl) rfl (fun K hK => ?_)
              go_simp
              refine hK.out _ _ (HS3.out) ?_
              clear hK K
              try simp only [Act.put, List.getElem_toArray, List.getElem_cons_succ, List.getElem_cons_zero, List.setIfInBounds_toArray, List.set_cons_zero, List.set_cons_succ]
              refine AnyBut.takeS (i := 7) (v := ?v9) rfl (by kernel_rfl) (Nat.le_of_eq (by kernel_rfl)) (by kernel_rfl) (by kernel_rfl) (fun _ _ _ h => h) (HS3.out) (Or.inl ⟨by kernel_rfl, ?hy9⟩) ?r9
              case hy9 =>
                intro w hSw
                try dsimp only at hSw
                go_simp
                try with_reducible rfl
              try simp only [Act.put, List.getElem_toArray, List.getElem_cons_succ, List.getElem_cons_zero, List.setIfInBounds_toArray, List.set_cons_zero, List.set_cons_succ]
              refine AnyBut.takeS (i := 11) (v := ?v10) rfl (by kernel_rfl) (Nat.le_of_eq (by kernel_rfl)) (by kernel_rfl) (by kernel_rfl) (fun _ _ _ h => h) (HS3.out) (Or.inl ⟨by kernel_rfl, ?hy10⟩) ?r10
              case hy10 =>
                intro w hSw
                try dsimp only at hSw
                go_simp
                try with_reducible rfl
              try simp only [Act.put, List.getElem_toArray, List.getElem_cons_succ, List.getElem_cons_zero, List.setIfInBounds_toArray, List.set_cons_zero, List.set_cons_succ]
              refine AnyBut.takeS (i := 12) (v := ?v11) rfl (by kernel_rfl) (Nat.le_of_eq (by kernel_rfl)) (by kernel_rfl) (by kernel_rfl) (fun _ _ _ h => h) (HS3.out) (Or.inl ⟨by kernel_rfl, ?hy11⟩) ?r11
              case hy11 =>
                intro w hSw
                try dsimp only at hSw
                go_simp
                try with_reducible rfl
              try simp only [Act.put, List.getElem_toArray, List.getElem_cons_succ, List.getElem_cons_zero, List.setIfInBounds_toArray, List.set_cons_zero, List.set_cons_succ]
              refine AnyBut.done (by kernel_rfl) ?_
              go_wp2
              go_roundg (n - (i + 1))
              case measure => have := HIN.out; omega
              case rel => exact ⟨i + 1, HIN.out, rfl, by go_num, HEB.out, by
                rw [HRT.out, fldF_2 _ _ HXX.out (by rw [HTY.out, HT.out]; rfl), ← List.append_assoc, ← List.append_assoc, ← HPP.out.2.2.2.2.2, HS3'.out], by exact HK9.out⟩
    · have hin2 : i = n := by omega
      have HUU := Lib.hid (show 0 = E ∧ D = X by
        have h := HEN.out
        rw [List.drop_eq_nil_of_le (by have := HN.out; omega)] at h
        have h0 : 0 = E := h
        refine ⟨h0, ?_⟩
        rw [HX.out.2 h0.symm, HD.out, List.take_of_length_le (by have := HN.out; omega)])
      have HBY := Lib.hid (show ∀ x ∈ D, x < 256 by
        rw [HD.out]
        intro x hx
        obtain ⟨r, hr, hx⟩ := List.mem_flatMap.1 hx
        obtain ⟨p, hp, rfl⟩ := List.mem_map.1 hr
        have hpL := List.mem_of_mem_take hp
        have hok := HR.out.ok p hpL
        have hb0 : badF p.r = 0 := by
          have h := HUU.out.1
          have h1 := (encE_zero (recsR L)).1 (by rw [HE.out]; exact h.symm)
          exact h1 p.r (List.mem_map.2 ⟨p, hpL, rfl⟩)
        exact fldF_byte p.r ⟨hok.v, hok.by_.lt⟩ (by have := HBL.out p hpL; omega) hb0 x hx)
      have hcv : ∀ w', (convert 9 25 (.string S0)).run Try.prog w' = .ok (.slice (some ⟨w'.heap.size, 0, none⟩) D.length (grownCap w' D.length 0 5)) (Lib.bytesWorld w' 5 S0) := fun w' => by rw [HS0.out]; exact strBytes_run w' D
      obtain ⟨m, hmm⟩ : ∃ m, m = D.length := ⟨_, rfl⟩
      have HMM := Lib.hid hmm
      rw [← hmm] at hcv
      subst hin2
      clear hd hin hmm
      go_wp2
      go_ret2
      obtain ⟨rfl, rfl⟩ := HUU.out
      have h := strBytes_at wr D HBY.out (grownCap wr m 0 5)
      rw [← HS0.out] at h
      have hk := HM.out.trans (strBytes_kept wr S0)
      rw [HMM.out] at h ⊢
      exact ⟨_, _, rfl, h, hk⟩
end Go.Proofs.Ytdgpeganmgcjiaa
