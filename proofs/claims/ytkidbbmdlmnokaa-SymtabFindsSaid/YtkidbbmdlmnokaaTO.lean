/- Layer 34: the walk of SymtabFinds. -/
import Derived.Test.YtkidbbmdlmnokaaTN
import Derived.Test.YtkidbbmdlmnokaaTG
namespace Go.Proofs.Ytkidbbmdlmnokaa
open Go.RowKit
attribute [local go_sem ↓] Go.wp_at_zero Go.wp_at_succ

/-- What Open answers, whatever it is. -/
theorem OpenTo.any {w w' : World} {r : Int × List ByteArray} {e : Ending} (h : OpenTo w r e w') : ∃ pv x, e = .returned (.tuple #[.pointer pv, .int .i64 x]) ∧ Kept (fun _ => False) w w' := by
  obtain ⟨hk, h1, h2⟩ := h
  by_cases h0 : r.1 = 0
  · obtain ⟨tb, rfl, _⟩ := h2 h0
    exact ⟨_, _, rfl, hk⟩
  · exact ⟨_, _, h1 h0, hk⟩
theorem filter_succ {L : List ByteArray} {i : Nat} {x : ByteArray} {p : ByteArray → Bool} (h : L[i]? = some x) : ((L.take (i + 1)).filter p).length = ((L.take i).filter p).length + (if p x = true then 1 else 0) := by
  rw [List.take_add_one, h, List.filter_append, List.length_append]
  congr 1
  by_cases hp : p x = true
  · simp [hp]
  · simp [hp]
set_option maxHeartbeats 8000000 in
set_option maxRecDepth 100000 in
theorem symtabFinds_walk (a : Option Addr) (cap : Nat) (L : List ByteArray) (s : ByteArray) (at_ : Int) (W : World) (hL : StrsAt W (.slice a L.length cap) L) (hl : L.length ≤ 9223372036854775807) (hs : s.size ≤ maxLen) (hat : -9223372036854775808 ≤ at_ ∧ at_ ≤ 9223372036854775807) :
    Calls Try.prog 8 #[.slice a L.length cap, .string s, .int .i64 at_] W fun e w' => e = .returned (.bool true) ∧ Kept (fun _ => False) W w' := by
  have HA := Lib.hid (awake34_any W)
  have HF := Lib.hid (fun w (k : Kept (fun _ => False) W w) => few34_any a cap L 60 w (hL.kept k) hl (by omega))
  obtain ⟨fw, hfw⟩ : ∃ f, f = fewS L 60 := ⟨_, rfl⟩
  rw [← hfw] at HF
  have HL := Lib.hid hL
  have HFW := Lib.hid hfw
  have HAT := Lib.hid hat
  have hs2 : (s.size : Int) ≤ 9223372036854775807 := by unfold maxLen at hs; omega
  have HS2 := Lib.hid hs2
  clear hL hl hfw hs hat hs2
  go_enter Try.func8, Try.ntmps8
  go_wp2_with fail
  refine HA.out.mono ?_
  rintro e w1 ⟨rfl, k1⟩
  have HK1 := Lib.hid k1
  clear k1
  go_wp2_with fail
  refine (HF.out w1 HK1.out).mono ?_
  rintro e w2 ⟨rfl, rfl⟩
  cases fw with
  | false =>
    go_wp2
    go_ret
    exact ⟨rfl, HK1.out⟩
  | true =>
    by_cases h500 : 500 < s.size
    · have q1 : (500 : Int) < (s.size : Int) := by omega
      have q1' : decide (500 < s.size) = true := decide_eq_true h500
      clear h500
      go_wp2
      go_ret
      exact ⟨rfl, HK1.out⟩
    have q1 : ¬ (500 : Int) < (s.size : Int) := by omega
    have q1' : decide (500 < s.size) = false := decide_eq_false h500
    have HSZ := Lib.hid h500
    obtain ⟨h60, hsz⟩ := few_is HFW.out.symm
    have HB := Lib.hid (fun w (k : Kept (fun _ => False) W w) => build_any a cap L w (HL.out.kept k) (by omega) (fun s hs => by have := hsz s hs; omega))
    have HO := Lib.hid (fun (h0 : (buildS L).1 = 0) (W' w : World) (v : Value) (h : w.ownsRow W'.heap.size 5 1 v (buildS L).2.length (u8s (buildS L).2)) => openBuilt_any h h0)
    have HOB := Lib.hid (fun (W' w : World) (v : Value) (h : w.ownsRow W'.heap.size 5 1 v (buildS L).2.length (u8s (buildS L).2)) => openOwn_any h (by have := (buildS_byte L).2; omega) (buildS_byte L).1)
    have HASC := Lib.hid (fun (h0 : (buildS L).1 = 0) => (build_ok h0).2.2)
    have H60 := Lib.hid h60
    obtain ⟨R, hR⟩ : ∃ R, R = buildS L := ⟨_, rfl⟩
    rw [← hR] at HB HO HOB HASC
    obtain ⟨E, bs⟩ := R
    clear h60 hsz hR h500
    go_wp2_with fail
    refine (HB.out w1 HK1.out).mono ?_
    rintro e w3 ⟨v3, rfl, o3, k3⟩
    have HO3 := Lib.hid o3
    have HK3 := Lib.hid (HK1.out.trans k3)
    clear o3 k3 q1 q1'
    by_cases he : E = 0
    · have q2 : (E != (0 : Int)) = false := bneF he
      have HOE := Lib.hid (HO.out he)
      have HAS := Lib.hid (HASC.out he)
      clear he
      go_wp2_with fail
      refine (HOE.out _ _ _ HO3.out).mono ?_
      rintro e w5 ⟨tb, rfl, ht, k5⟩
      have HT := Lib.hid ht
      have HK5 := Lib.hid (HK3.out.trans k5)
      have HL5 := Lib.hid (HL.out.kept HK5.out)
      have HZB : Hid (∀ z, SearchTo L.length (geAt L s) z → z = belS L s) := Lib.hid (fun z h => (below_of_search HAS.out h).symm)
      have HBE := Lib.hid (fun w (k : Kept (fun _ => False) W w) => rbelow_any a cap L s w (HL.out.kept k) (by have := H60.out; omega))
      obtain ⟨b, hb⟩ : ∃ b, b = belS L s := ⟨_, rfl⟩
      rw [← hb] at HZB HBE
      clear ht k5 hb
      go_wp2_with fail
      refine (tat_any tb L at_ w5 HT.out HAT.out).mono ?_
      rintro e w6 ⟨rfl, rfl⟩
      go_upto_region 10 with fail
      go_cut [11, 12, 82] (fun s11 s12 s82 wc => s82 = .bool false ∧ w5 = wc)
      case first =>
        by_cases h0 : at_ < 0
        · have HX : atS L at_ = (ByteArray.empty, false) := if_pos (.inl h0)
          rw [HX]
          have q3 : ¬ (0 : Int) ≤ at_ := by omega
          have q3' : decide ((0 : Int) ≤ at_) = false := decide_eq_false q3
          clear h0 HX
          go_wp2
          go_meet
          case rel => exact ⟨rfl, rfl⟩
        · by_cases h1 : (L.length : Int) ≤ at_
          · have HX : atS L at_ = (ByteArray.empty, false) := if_pos (.inr h1)
            rw [HX]
            have q3 : (0 : Int) ≤ at_ := by omega
            have q3' : decide ((0 : Int) ≤ at_) = true := decide_eq_true q3
            have q4 : ¬ at_ < (L.length : Int) := by omega
            have q4' : decide (at_ < (L.length : Int)) = false := decide_eq_false q4
            clear h0 h1 HX
            go_wp2
            go_meet
            case rel => exact ⟨rfl, rfl⟩
          · obtain ⟨j, rfl⟩ : ∃ j : Nat, at_ = (j : Int) := ⟨at_.toNat, by omega⟩
            have hj : j < L.length := by omega
            have hg := List.getElem?_eq_getElem hj
            have HX : atS L (j : Int) = (L[j], true) := by unfold atS; rw [if_neg (by omega), Int.toNat_natCast, List.getD_eq_getElem?_getD, hg]; rfl
            rw [HX]
            obtain ⟨x, hx⟩ : ∃ x, x = L[j] := ⟨_, rfl⟩
            rw [← hx] at hg ⊢
            obtain ⟨g, o, ha, hcell⟩ := HL5.out.cell hg
            subst ha
            have hjl : (j : Int) < (L.length : Int) := by omega
            have hj0 : (0 : Int) ≤ (j : Int) := by omega
            have qx : (x.toList != x.toList) = false := by simp
            clear h0 h1 HX hg hx hj
            go_wp2
            go_meet
            case rel => exact ⟨rfl, rfl⟩
      case rest =>
        obtain ⟨rfl, rfl⟩ := hcut
        go_wp2_with fail
        refine (HBE.out w5 HK5.out).mono ?_
        rintro e w7 ⟨rfl, rfl⟩
        go_wp2_with fail
        refine (tfind_any tb L s w5 HT.out (by have := H60.out; omega)).mono ?_
        rintro e w8 ⟨z, hz, rfl, k8⟩
        obtain rfl := HZB.out z hz
        have HT8 := Lib.hid (HT.out.kept k8)
        have HK8 := Lib.hid (HK5.out.trans k8)
        have HL8 := Lib.hid (HL.out.kept HK8.out)
        have HZ := Lib.hid hz
        clear hz k8
        go_upto_region 14 with fail
        go_cut [14, 15, 128] (fun s14 s15 s128 wc => s128 = .bool false ∧ TabAt wc tb L ∧ Kept (fun _ => False) W wc)
        case first =>
          have qz : ((z : Int) != (z : Int)) = false := by simp
          by_cases h : z < L.length
          · have hzl : (z : Int) < (L.length : Int) := by omega
            have hz0 : (0 : Int) ≤ (z : Int) := by omega
            have hg := List.getElem?_eq_getElem h
            have hgd : L.getD z ByteArray.empty = L[z] := by rw [List.getD_eq_getElem?_getD, hg]; rfl
            obtain ⟨x, hx⟩ : ∃ x, x = L[z] := ⟨_, rfl⟩
            rw [← hx] at hg hgd
            obtain ⟨g, o, ha, hcell⟩ := HL8.out.cell hg
            subst ha
            by_cases hxs : x = s
            · have HX : findZ L s z = (z, true) := if_pos ⟨h, by rw [hgd, hxs]⟩
              rw [HX]
              have q2 : (x.toList == s.toList) = true := beq_iff_eq.2 (by rw [hxs])
              clear hg hgd hx hxs h HX
              go_wp2_with fail
              refine (tbelow_any tb L s w8 HT8.out (by have := H60.out; omega)).mono ?_
              rintro e w9 ⟨z2, rfl, hz2, k9⟩
              rw [HZB.out z2 hz2]
              clear hz2
              go_wp2
              go_meet
              case rel => exact ⟨rfl, HT8.out.kept k9, HK8.out.trans k9⟩
            · have HX : findZ L s z = (0, false) := if_neg (fun e => hxs (by rw [← hgd, e.2]))
              rw [HX]
              have q2 : (x.toList == s.toList) = false := beq_eq_false_iff_ne.2 (fun e => hxs (bl_inj (by unfold bl; rw [e])))
              clear hg hgd hx hxs h HX
              go_wp2_with fail
              refine (tbelow_any tb L s w8 HT8.out (by have := H60.out; omega)).mono ?_
              rintro e w9 ⟨z2, rfl, hz2, k9⟩
              rw [HZB.out z2 hz2]
              clear hz2
              go_wp2
              go_meet
              case rel => exact ⟨rfl, HT8.out.kept k9, HK8.out.trans k9⟩
          · have hzl : ¬ (z : Int) < (L.length : Int) := by omega
            have hzl' : decide (z < L.length) = false := decide_eq_false h
            have HX : findZ L s z = (0, false) := if_neg (fun e => h e.1)
            rw [HX]
            clear h HX
            go_wp2_with fail
            refine (tbelow_any tb L s w8 HT8.out (by have := H60.out; omega)).mono ?_
            rintro e w9 ⟨z2, rfl, hz2, k9⟩
            rw [HZB.out z2 hz2]
            clear hz2
            go_wp2
            go_meet
            case rel => exact ⟨rfl, HT8.out.kept k9, HK8.out.trans k9⟩
        case rest =>
          obtain ⟨rfl, ht, kc⟩ := hcut
          have HTC := Lib.hid ht
          have HKC := Lib.hid kc
          clear ht kc
          go_upto_region 18 with fail
          go_loopg [16, 17] L.length (fun G s16 s17 wr => ∃ i : Nat, i ≤ L.length ∧ G = L.length - i ∧ s17 = .int .i64 i ∧ s16 = .int .i64 ((((L.take i).filter (fun x => begS x s)).length : Nat) : Int) ∧ wc = wr)
          case atStart => exact ⟨0, Nat.zero_le _, rfl, rfl, rfl, rfl⟩
          case round =>
            obtain ⟨i, hin, rfl, rfl, rfl, rfl⟩ := hrel
            by_cases hd : i < L.length
            · have hdi : (i : Int) < (L.length : Int) := by omega
              have hi0 : (0 : Int) ≤ (i : Int) := by omega
              have wi : IntKind.i64.wrap ((i : Int) + 1) = ((i + 1 : Nat) : Int) := by rw [IntWalk.i64_in _ ⟨by omega, by have := H60.out; omega⟩]; omega
              have hg := List.getElem?_eq_getElem hd
              obtain ⟨x, hx⟩ : ∃ x, x = L[i] := ⟨_, rfl⟩
              rw [← hx] at hg
              obtain ⟨g, o, ha, hcell⟩ := (HL.out.kept HKC.out).cell hg
              subst ha
              have hfs := filter_succ (p := fun x => begS x s) hg
              have hfl : ((L.take i).filter (fun x => begS x s)).length ≤ 60 := by
                have h1 := List.length_filter_le (fun x => begS x s) (L.take i)
                rw [List.length_take] at h1
                have := H60.out
                omega
              obtain ⟨m, hm⟩ : ∃ m, m = ((L.take i).filter (fun x => begS x s)).length := ⟨_, rfl⟩
              rw [← hm] at hfs hfl ⊢
              have wm : IntKind.i64.wrap ((m : Int) + 1) = ((m + 1 : Nat) : Int) := by rw [IntWalk.i64_in _ ⟨by omega, by omega⟩]; omega
              have HFS := Lib.hid hfs
              have HD := Lib.hid hd
              have HBG := Lib.hid (begins34_any x s wc)
              obtain ⟨B, hB⟩ : ∃ B, B = begS x s := ⟨_, rfl⟩
              rw [← hB] at HBG
              have HBB := Lib.hid hB
              clear hg hx hfs hfl hm hB hd hin
              go_wp2_with fail
              refine HBG.out.mono ?_
              rintro e w9 ⟨rfl, rfl⟩
              cases B with
              | true =>
                go_wp2
                go_roundg (L.length - (i + 1))
                case measure => have := HD.out; omega
                case rel => exact ⟨i + 1, HD.out, rfl, rfl, by rw [HFS.out, ← HBB.out]; rfl, rfl⟩
              | false =>
                go_wp2
                go_roundg (L.length - (i + 1))
                case measure => have := HD.out; omega
                case rel => exact ⟨i + 1, HD.out, rfl, rfl, by rw [HFS.out, ← HBB.out]; rfl, rfl⟩
            · have hdi : ¬ (i : Int) < (L.length : Int) := by omega
              have hdi' : decide (i < L.length) = false := decide_eq_false hd
              have hil : i = L.length := by omega
              rw [hil, List.take_of_length_le (Nat.le_refl _)]
              have HPR : Hid (∀ z' y, SearchTo L.length (geAt L s) z' → SearchTo (L.length - z') (noPre L z' s) y → z' = z ∧ y = (L.filter (fun x => begS x s)).length) := Lib.hid (fun z' y h1 h2 => ⟨HZB.out z' h1, (prefix_of_search HAS.out h1 h2).symm⟩)
              have hfl : (L.filter (fun x => begS x s)).length ≤ 60 := by
                have h1 := List.length_filter_le (fun x => begS x s) L
                have := H60.out
                omega
              obtain ⟨m, hm⟩ : ∃ m, m = (L.filter (fun x => begS x s)).length := ⟨_, rfl⟩
              rw [← hm] at HPR hfl ⊢
              have hzz := HZ.out.1
              have h60 := H60.out
              have wm : IntKind.i64.wrap ((z : Int) + (m : Int)) = (z : Int) + (m : Int) := IntWalk.i64_in _ ⟨by omega, by omega⟩
              have qe : ((z : Int) == (z : Int)) = true := by simp
              have qe2 : (((z : Int) + (m : Int)) == ((z : Int) + (m : Int))) = true := by simp
              rw [hil] at hdi hdi'
              clear hfl hm hd hin hil hzz h60
              go_wp2_with fail
              refine (tprefix_any tb L s wc HTC.out (by have := H60.out; omega)).mono ?_
              rintro e w9 ⟨z', y, hz', hy, rfl, k9⟩
              obtain ⟨e1, e2⟩ := HPR.out z' y hz' hy
              rw [e1, e2]
              have HK9 := Lib.hid (HKC.out.trans k9)
              clear hz' hy e1 e2 k9
              go_wp2
              go_ret
              exact ⟨rfl, HK9.out⟩
    · have q2 : (E != (0 : Int)) = true := bneT he
      clear he
      go_wp2_with fail
      refine (HOB.out _ _ _ HO3.out).mono ?_
      intro e w5 hop
      obtain ⟨pv, x, rfl, k5⟩ := hop.any
      have HK5 := Lib.hid (HK3.out.trans k5)
      clear hop k5
      go_wp2
      go_ret
      exact ⟨rfl, HK5.out⟩
end Go.Proofs.Ytkidbbmdlmnokaa
