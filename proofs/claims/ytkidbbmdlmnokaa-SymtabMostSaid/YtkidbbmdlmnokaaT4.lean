/- The document's layer 34: Build. -/
import Derived.Test.YtkidbbmdlmnokaaT3
namespace Go.Proofs.Ytkidbbmdlmnokaa
open Go.RowKit
attribute [local go_sem ↓] Go.wp_at_zero Go.wp_at_succ

theorem u8s_app (a b : List Int) : u8s a ++ u8s b = u8s (a ++ b) := by simp
theorem u8s_len (l : List Int) : (u8s l).length = l.length := by simp
theorem src8 {w : World} {B : Nat} {v : Value} {l : List Int} (h : w.ownsRow B 5 1 v l.length (u8s l)) : Src Try.prog 1 27 v (u8s l).length (u8s l) w := by
  have := (ownsRow.src h Try.underlying27 (u8s_one _) : Src Try.prog 1 27 v l.length (u8s l) w)
  rwa [show (u8s l).length = l.length by simp]
set_option maxHeartbeats 8000000 in
set_option maxRecDepth 100000 in
theorem rbuild_any (ao : Option Addr) (cp : Nat) (L : List ByteArray) (w : World) (hL : StrsAt w (.slice ao L.length cp) L) (hl : L.length ≤ 1000000) (hs : ∀ s ∈ L, s.size ≤ 1000000) :
    Calls Try.prog 33 #[.slice ao L.length cp] w fun e w' => BuildTo w (buildS L) e w' := by
  obtain ⟨i0, hi, hz0, hz1, hz2⟩ := info_parts Try.infoU8
  by_cases h4 : 4096 < L.length
  · have HX : Hid (buildS L = (4, [])) := Lib.hid (if_pos h4)
    have q1 : (4096 : Int) < (L.length : Int) := by omega
    have q1' : decide (4096 < L.length) = true := decide_eq_true h4
    clear h4 hl hs hL
    go_enter Try.func33, Try.ntmps33
    go_wp2
    go_ret2
    rw [HX.out]
    exact ⟨_, rfl, World.ownsRow_nil _ _ _ _, Kept.refl _ _⟩
  have HX : Hid (buildS L = preB (numB (L.length : Nat)) (bldL 0 ByteArray.empty L)) := Lib.hid (if_neg h4)
  have q1 : ¬ (4096 : Int) < (L.length : Int) := by omega
  have q1' : decide (4096 < L.length) = false := decide_eq_false h4
  have HL := Lib.hid hL
  have HSZ := Lib.hid hs
  have HLL := Lib.hid (show L.length ≤ 4096 by omega)
  have wl : IntKind.u64.wrap (L.length : Int) = (L.length : Int) := by rw [IntKind.wrap_u64]; omega
  have HN0 := Lib.hid (numB_len ((L.length : Nat) : Int))
  clear hL hs h4 hl
  go_enter Try.func33, Try.ntmps33
  go_wp2_with fail
  refine (refNum_any (L.length : Int) _ (by omega) (by have := HLL.out; omega)).mono ?_
  rintro e w1 ⟨v0, rfl, ho0, hk0⟩
  have HM0 := Lib.hid (Mine.ofFresh ho0 hk0)
  clear ho0 hk0 wl
  go_upto_region 6 with fail
  go_loopg [6, 5, 4] L.length (fun G s6 s5 s4 wr => ∃ i : Nat, i ≤ L.length ∧ G = L.length - i ∧ s6 = .int .i64 i ∧ s5 = .string (aheadS L i) ∧ ∃ acc, acc.length ≤ 418 * i ∧ Mine w wr 5 s4 (u8s (numB (L.length : Nat) ++ acc)) ∧ bldL 0 ByteArray.empty L = preB acc (bldL i (aheadS L i) (L.drop i)) ∧ (aheadS L i).size ≤ 400)
  case atStart => exact ⟨0, Nat.zero_le _, rfl, rfl, rfl, [], by simp, by rw [List.append_nil]; exact HM0.out, by rw [List.drop_zero]; exact (preB_nil (bldL_fault _ _ _)).symm, by simp [aheadS]⟩
  case round =>
    obtain ⟨i, hin, rfl, rfl, rfl, acc, hacc, hm, hb, hah⟩ := hrel
    have HM := Lib.hid hm
    have HB := Lib.hid hb
    have HAC := Lib.hid (And.intro hacc hah)
    obtain ⟨ao4, cp4, hv4⟩ := hm.slice
    subst hv4
    clear hm hb hacc
    by_cases hd : i < L.length
    · have hdi : (i : Int) < (L.length : Int) := by omega
      have hi0 : (0 : Int) ≤ (i : Int) := by omega
      have hg := List.getElem?_eq_getElem hd
      have hsz := HSZ.out L[i] (List.getElem_mem hd)
      obtain ⟨s, hs⟩ : ∃ s, s = L[i] := ⟨_, rfl⟩
      rw [← hs] at hg hsz
      obtain ⟨g, o, ha, hcell0⟩ := HL.out.cell hg
      subst ha
      have HC := Lib.hid (fun w' (k : Kept (fun _ => False) w w') => k.cell hcell0 (fun x => x))
      have hcell := HC.out _ HM.out.kept
      have HG := Lib.hid hg
      have HD := Lib.hid hd
      have hasz : (aheadS L i).size ≤ 1000000 := by omega
      obtain ⟨A, hA⟩ : ∃ A, A = aheadS L i := ⟨_, rfl⟩
      have HA := Lib.hid hA
      rw [← hA] at hasz ⊢
      have wi : IntKind.i64.wrap ((i : Int) + 1) = ((i + 1 : Nat) : Int) := by rw [IntWalk.i64_in _ ⟨by omega, by have := HLL.out; omega⟩]; omega
      clear hg hs hA hah hin hd hcell0
      by_cases hbig : 400 < s.size
      · have HR : Hid (buildS L = (4, [])) := Lib.hid (by rw [HX.out, HB.out, drop_str HG.out, bldL_large hbig]; rfl)
        have q4 : (400 : Int) < (s.size : Int) := by omega
        have q4' : decide (400 < s.size) = true := decide_eq_true hbig
        clear hbig
        go_wp2
        go_ret2
        rw [HR.out]
        exact ⟨_, rfl, World.ownsRow_nil _ _ _ _, HM.out.kept⟩
      · have q4 : ¬ (400 : Int) < (s.size : Int) := by omega
        have q4' : decide (400 < s.size) = false := decide_eq_false hbig
        have HBG := Lib.hid hbig
        by_cases hor : 0 < i ∧ leS s A = true
        · have HR : Hid (buildS L = (9, [])) := Lib.hid (by rw [HX.out, HB.out, drop_str HG.out, ← HA.out, bldL_order hbig hor]; rfl)
          have q5 : (0 : Int) < (i : Int) := by have := hor.1; omega
          have q5' : decide (0 < i) = true := decide_eq_true hor.1
          have q6 : (Op.bytesLess s.toList A.toList || s.toList == A.toList) = true := hor.2
          clear hbig hor
          go_wp2
          go_ret2
          rw [HR.out]
          exact ⟨_, rfl, World.ownsRow_nil _ _ _ _, HM.out.kept⟩
        · have hst := bldL_step (t := L.drop (i + 1)) hbig hor
          have HS := Lib.hid (fun w => rshared_any i A s w (by have := HLL.out; have := HD.out; omega) hasz hsz)
          have hshr := shr_le i A s
          have hrb : recB i A s = numB (shr i A s : Nat) ++ numB ((s.extract (shr i A s) s.size).size : Nat) ++ strB (s.extract (shr i A s) s.size) := rfl
          have hrl := recB_len i A s (by omega)
          have hcut := run_from34 (P := Try.prog) Try.underlying9 s (shr i A s) hshr.1
          have hxs : (s.extract (shr i A s) s.size).size ≤ 400 := by rw [size_from]; omega
          obtain ⟨n, hn⟩ : ∃ n, n = shr i A s := ⟨_, rfl⟩
          rw [← hn] at HS hrb hcut hshr hxs
          obtain ⟨x, hx⟩ : ∃ x, x = s.extract n s.size := ⟨_, rfl⟩
          rw [← hx] at hrb hcut hxs
          have HXS := Lib.hid hxs
          have HRB := Lib.hid (And.intro hrb hrl)
          have HST := Lib.hid hst
          have hn0 : (0 : Int) ≤ (n : Int) := by omega
          have hns : (n : Int) ≤ (s.size : Int) := by omega
          have wn : IntKind.u64.wrap (n : Int) = (n : Int) := by rw [IntKind.wrap_u64]; omega
          have HNB := Lib.hid (show n ≤ 400 by omega)
          have horc : (¬ (0 : Int) < (i : Int)) ∨ ((0 : Int) < (i : Int) ∧ (Op.bytesLess s.toList A.toList || s.toList == A.toList) = false) := by
            by_cases h0 : 0 < i
            · refine .inr ⟨by omega, ?_⟩
              show leS s A = false
              rw [← Bool.not_eq_true]
              exact fun e => hor ⟨h0, e⟩
            · exact .inl (by omega)
          have HLN := Lib.hid (show (u8s (numB (L.length : Nat) ++ acc)).length ≤ 2000000 by rw [List.length_map, List.length_append]; have := HN0.out; have := HAC.out.1; have := HLL.out; have := HD.out; omega)
          have HB1 := Lib.hid (show (u8s (numB (L.length : Nat) ++ acc)).length + (u8s (numB (n : Int))).length ≤ 1000000000000 by
            have h1 := HLN.out; have h2 := numB_len (n : Int); rw [u8s_len (numB (n : Int))]; omega)
          have HB2 := Lib.hid (show (u8s (numB (L.length : Nat) ++ acc) ++ u8s (numB (n : Int))).length + (u8s (numB (x.size : Nat) ++ strB x)).length ≤ 1000000000000 by
            have h1 := HLN.out; have h2 := numB_len (n : Int); have h3 := numB_len ((x.size : Nat) : Int); have h4 := HXS.out
            rw [List.length_append, u8s_len (numB (n : Int)), u8s_len (numB (x.size : Nat) ++ strB x), List.length_append, strB_length]; omega)
          have HRN := Lib.hid (fun w => refNum_any (n : Int) w (by omega) (by omega))
          have HRT := Lib.hid (fun w => refText_any x w (by omega))
          have HEQ := Lib.hid (show numB (L.length : Nat) ++ acc ++ numB (n : Int) ++ (numB (x.size : Nat) ++ strB x) = numB (L.length : Nat) ++ (acc ++ recB i A s) by rw [hrb]; simp)
          obtain ⟨l0, hl0⟩ : ∃ l, l = numB (L.length : Nat) ++ acc := ⟨_, rfl⟩
          obtain ⟨l1, hl1⟩ : ∃ l, l = numB (n : Int) := ⟨_, rfl⟩
          obtain ⟨l2, hl2⟩ : ∃ l, l = numB (x.size : Nat) ++ strB x := ⟨_, rfl⟩
          rw [← hl0] at HM HB1 HB2 HEQ ⊢
          rw [← hl1] at HB1 HB2 HRN HEQ
          rw [← hl2] at HB2 HRT HEQ
          obtain ⟨ln, hln⟩ : ∃ ln, ln = (u8s l0).length := ⟨_, rfl⟩
          rw [← hln] at HM ⊢
          clear hst hrb hrl hn hx hshr hor hbig hasz hsz hxs hln hl0 hl1 hl2
          rcases horc with q5 | ⟨q5, q6⟩
          all_goals
            go_wp2_with fail
            refine (HS.out _).mono ?_
            rintro e w3 ⟨rfl, k3⟩
            have HM3 := Lib.hid (HM.out.on k3)
            have hc3 := HC.out _ HM3.out.kept
            clear k3 hcell
            go_wp2_with fail
            refine (HRN.out _).mono ?_
            rintro e w4 ⟨v1, rfl, ho1, hk1⟩
            have HM4 := Lib.hid (HM3.out.on hk1)
            have HS1 := Lib.hid (src8 ho1)
            clear ho1 hk1 hc3
            go_wp2_with (at_builtin; refine wpList_mine rfl (.tmp 44) (.tmp 47) 27 27 rfl 5 i0 _ 1 Try.underlying27 hi hz0 hz1 hz2 rfl (by omega) w _ (u8s l0) rfl HM4.out _ (u8s l1) rfl HS1.out HB1.out ?_)
            intro v5 w5 hm5
            have HM5 : Hid (Mine w w5 5 v5 (u8s l0 ++ u8s l1)) := Lib.hid hm5
            have hc5 := HC.out _ hm5.kept
            clear hm5
            go_wp2_with fail
            refine (HRT.out _).mono ?_
            rintro e w6 ⟨v2, rfl, ho2, hk2⟩
            have HM6 := Lib.hid (HM5.out.on hk2)
            have HS2 := Lib.hid (src8 ho2)
            clear ho2 hk2 hc5
            go_wp2_with (at_builtin; refine wpList_mine rfl (.tmp 49) (.tmp 56) 27 27 rfl 5 i0 _ 1 Try.underlying27 hi hz0 hz1 hz2 rfl (by omega) w _ (u8s l0 ++ u8s l1) rfl HM6.out _ (u8s l2) rfl HS2.out HB2.out ?_)
            intro v7 w7 hm7
            have hm7' : Mine w w7 5 v7 (u8s l0 ++ u8s l1 ++ u8s l2) := by first | exact hm7 | (rw [List.append_assoc]; exact hm7)
            have HM7 : Hid (Mine w w7 5 v7 (u8s (numB (L.length : Nat) ++ (acc ++ recB i A s)))) := Lib.hid (by
              rw [← HEQ.out, ← u8s_app, ← u8s_app]; exact hm7')
            have hc7 := HC.out _ hm7'.kept
            clear hm7 hm7'
            go_wp2
            go_roundg (L.length - (i + 1))
            case measure => have := HD.out; omega
            case rel =>
              refine ⟨i + 1, HD.out, rfl, rfl, by rw [ahead_succ HG.out], acc ++ recB i A s, by rw [List.length_append]; have := HAC.out.1; have := HRB.out.2; omega, HM7.out, ?_, by rw [ahead_succ HG.out]; have := HBG.out; omega⟩
              rw [HB.out, drop_str HG.out, ← HA.out, HST.out, preB_preB, ahead_succ HG.out]
    · obtain rfl : i = L.length := by omega
      have hdi : ¬ (L.length : Int) < (L.length : Int) := by omega
      have hdi' : decide (L.length < L.length) = false := decide_eq_false hd
      have HR : Hid (buildS L = (0, numB (L.length : Nat) ++ acc)) := Lib.hid (by
        rw [HX.out, HB.out, List.drop_length]
        unfold bldL preB
        simp)
      have ho := HM.out.own
      rw [List.length_map] at ho
      have HO := Lib.hid ho
      have HKM := Lib.hid HM.out.kept
      obtain ⟨ln, hln⟩ : ∃ ln, ln = (u8s (numB (L.length : Nat) ++ acc)).length := ⟨_, rfl⟩
      rw [← hln]
      have HLN := Lib.hid hln
      clear hd hin ho HM hln
      go_wp2
      go_ret2
      rw [HR.out]
      refine ⟨_, rfl, ?_, HKM.out⟩
      rw [HLN.out, List.length_map]
      exact HO.out
end Go.Proofs.Ytkidbbmdlmnokaa
