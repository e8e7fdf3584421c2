/- Layer 20: the walk of SnapWhole (written by tools/gen_XWV.py). -/
import Derived.Test.YtficodklidaheaaDoorWU
import Derived.Test.YtficodklidaheaaDoorSB
import Derived.Test.YtficodklidaheaaDoorSD
import Derived.Test.YtficodklidaheaaDoorR2
namespace Go.Proofs.YtficodklidaheaaDoor
open Go.RowKit
attribute [local go_sem ↓] Go.wp_at_zero Go.wp_at_succ

theorem isRow_vals2 {w : World} {a : Option Addr} {len cap : Nat} {zs : List Int} (h : IsRow .i64 w a len cap zs) : ∃ l : List Int, l.length = len ∧ SlAt w (.slice a len cap) (vals l) ∧ len ≤ 9223372036854775807 := by
  obtain ⟨l, hl, _, hs⟩ := h.slAtI
  exact ⟨l, hl, hs, by have := isRow_cap h; unfold maxLen at this; omega⟩
theorem off_any {D : DA} (hd : D.down = false) : (syncD (crashD D 0) sN).1.down = true ∧ (syncD (crashD D 0) sN).1.L = D.L := by
  have e : beginD (crashD D 0) = ({ countedD (crashD D 0) with down := true }, 13) := by
    unfold beginD
    have : (crashD D 0).down = false := hd
    rw [this]
    have : (crashD D 0).crashIn = 0 := rfl
    rw [this]
    rfl
  have e2 : syncD (crashD D 0) sN = beginD (crashD D 0) := by
    unfold syncD behindD
    rw [e]
    rfl
  rw [e2, e]
  exact ⟨rfl, rfl⟩
theorem OldIs.of {D D' : DA} {x : List Nat} (h : OldIs D x) (e : D'.L = D.L) : OldIs D' x := by unfold OldIs; rw [e]; exact h
theorem DK.downB2 {b0 base : Nat} {w : World} {db mb : Nat} {L : List (ByteArray × Fi)} {D : DA} (h : DK base w db mb L D) (hb : b0 ≤ base) : DK b0 w db mb L D :=
  ⟨h.box, h.map, h.perm, fun p hp => (h.data p hp).imp id (fun ⟨g, cur, h1, h2, h3⟩ => ⟨g, cur, h1, Nat.le_trans hb h2, h3⟩), h.sep, ⟨Nat.le_trans hb h.base.1, Nat.le_trans hb h.base.2⟩, h.ok⟩
theorem strN_ne {a b : List Nat} (h : strN a ≠ strN b) : ((strN a).toList == (strN b).toList) = false := toList_ne h

set_option maxRecDepth 100000 in
set_option maxHeartbeats 16000000 in
theorem whole_walk (ao : Option Addr) (n ca : Nat) (old : List Nat) (bo : Option Addr) (m cb : Nat) (next : List Nat) (cap crash fail code : Int) (ko : Option Addr) (nk ck : Nat) (keep : List Int) (W : World) (HN : Nibs W)
    (ho : Row8 W (.slice ao n ca) old) (hol : old.length = n) (hx : Row8 W (.slice bo m cb) next) (hxl : next.length = m) (hke : SlAt W (.slice ko nk ck) (vals keep)) (hkl : keep.length = nk)
    (hcr : I64 crash) (hfa : I64 fail) (hcp : I64 cap) :
    Calls Tryd.prog 9 #[.slice ao n ca, .slice bo m cb, .int .i64 cap, .int .i64 crash, .int .i64 fail, .int .i64 code, .slice ko nk ck] W fun e w' => e = .returned (.bool true) ∧ Kept (fun _ => False) W w' := by
  have HAW := Lib.hid (awake20_any W HN)
  have hb0 := nibs_pos2 HN
  have HNI := Lib.hid HN
  have HKE := Lib.hid (And.intro hke hkl)
  have HCR := Lib.hid (And.intro hcr (And.intro hfa hcp))
  have HP := Lib.hid (And.intro ho (And.intro hol (And.intro hx hxl)))
  clear HN ho hol hx hxl hke hkl hcr hfa hcp
  by_cases h1 : 1000 < n
  · have q1 : (1000 : Int) < (n : Int) := by omega
    clear HP
    go_enter Tryd.func9, Tryd.ntmps9
    go_wp2_with fail
    refine HAW.out.mono ?_
    rintro e w1 ⟨rfl, k1⟩
    have HK1 := Lib.hid k1
    clear k1
    go_wp2
    go_ret
    exact ⟨rfl, HK1.out⟩
  have q1 : ¬ ((1000 : Int) < (n : Int)) := by omega
  by_cases h2 : 1000 < m
  · have q2 : (1000 : Int) < (m : Int) := by omega
    clear HP
    go_enter Tryd.func9, Tryd.ntmps9
    go_wp2_with fail
    refine HAW.out.mono ?_
    rintro e w1 ⟨rfl, k1⟩
    have HK1 := Lib.hid k1
    clear k1
    go_wp2
    go_ret
    exact ⟨rfl, HK1.out⟩
  have q2 : ¬ ((1000 : Int) < (m : Int)) := by omega
  by_cases h3 : 20 < nk
  · have q3 : (20 : Int) < (nk : Int) := by omega
    clear HP
    go_enter Tryd.func9, Tryd.ntmps9
    go_wp2_with fail
    refine HAW.out.mono ?_
    rintro e w1 ⟨rfl, k1⟩
    have HK1 := Lib.hid k1
    clear k1
    go_wp2
    go_ret
    exact ⟨rfl, HK1.out⟩
  have q3 : ¬ ((20 : Int) < (nk : Int)) := by omega

  by_cases h4 : code = 13
  · subst h4
    clear HP
    go_enter Tryd.func9, Tryd.ntmps9
    go_wp2_with fail
    refine HAW.out.mono ?_
    rintro e w1 ⟨rfl, k1⟩
    have HK1 := Lib.hid k1
    clear k1
    go_wp2
    go_ret
    exact ⟨rfl, HK1.out⟩
  have q4 : (code == 13) = false := beq_eq_false_iff_ne.2 h4
  have HC13 := Lib.hid h4
  have HSM := Lib.hid (show n ≤ 1000 ∧ m ≤ 1000 by omega)
  clear h1 h2 h3 h4
  go_enter Tryd.func9, Tryd.ntmps9
  go_wp2_with fail
  refine HAW.out.mono ?_
  rintro e w1 ⟨rfl, k1⟩
  have HK1 := Lib.hid k1
  have HNEW := Lib.hid (dNew_any none 0 0 [] rfl cap (by decide) w1 (fun h => absurd h (by simp)) (fun f hf => by cases hf))
  rw [show List.map AF.t [] = [] from rfl] at HNEW
  clear k1
  go_wp2_with fail
  refine HNEW.out.mono ?_
  rintro e w3 ⟨hno, hyes⟩
  cases hD : newD [] cap with
  | none =>
    obtain ⟨rfl, k3⟩ := hno hD
    have HK3 := Lib.hid (HK1.out.trans k3)
    clear hno hyes hD k3
    go_wp2
    go_ret
    exact ⟨rfl, HK3.out⟩
  | some D0 =>
    obtain ⟨db, mb, L, rfl, h3, k3⟩ := hyes D0 hD
    have hD0 : D0 = freshD cap [] := by
      by_cases hbad : cap < 1 ∨ 4194304 < cap ∨ 4096 < ([] : List (ByteArray × List Nat)).length
      · rw [newD_bad hbad] at hD; cases hD
      · rw [newD_good hbad] at hD; injection hD with hD; exact hD.symm
    subst hD0
    have HK3 := Lib.hid (HK1.out.trans k3)
    have HD3 := Lib.hid (h3.downB2 HK1.out.size)
    have HSN := Lib.hid (save_new (D := freshD cap []) ⟨rfl, rfl, rfl⟩ rfl (x := old) (by have := HP.out.2.1; have := HSM.out.1; omega))
    have HSV := Lib.hid (sSave_any W.heap.size db mb hb0 L (freshD cap []) sN (by decide) ao n ca old HP.out.2.1.symm w3 HD3.out (HP.out.1.kept HK3.out) (HNI.out.kept HK3.out) (by have := HP.out.2.1; have := HSM.out.1; omega))
    obtain ⟨r1, hr1⟩ : ∃ r, r = saveD (freshD cap []) sN old := ⟨_, rfl⟩
    rw [← hr1] at HSN HSV
    rw [show sN = { data := #[115] } from rfl] at HSV
    clear hno hyes hD k3 h3 hr1
    go_wp2_with fail
    refine HSV.out.mono ?_
    rintro e w4 ⟨L4, rfl, h4, k4, f4⟩
    have HK4 := Lib.hid (HD3.out.keptNew2 HK3.out k4)
    have HD4 := Lib.hid h4
    obtain ⟨z1, hz1⟩ : ∃ z : Int, z = r1.2 := ⟨_, rfl⟩
    rw [← hz1] at HSN ⊢
    clear h4 k4 f4 hz1
    rcases HSN.out with ⟨hlow, rfl⟩ | ⟨rfl, hL1, hc1⟩
    · have q5 : cap < 9 + (n : Int) := by have := HP.out.2.1; have e : (freshD cap []).cap = cap := rfl; rw [e] at hlow; omega
      have w5 : IntKind.i64.wrap (9 + (n : Int)) = 9 + (n : Int) := by have := HSM.out.1; rw [IntWalk.i64_in _ ⟨by omega, by omega⟩]
      clear hlow
      go_wp2
      go_ret
      exact ⟨rfl, HK4.out⟩
    have HL1 := Lib.hid (And.intro hL1 hc1)
    have HCH := Lib.hid (dCrash_any W.heap.size db mb L4 r1.1 crash HCR.out.1 w4 HD4.out)
    clear hL1 hc1
    go_wp2_with fail
    refine HCH.out.mono ?_
    rintro e w5 ⟨rfl, h5, k5⟩
    have HK5 := Lib.hid (HD4.out.keptNew2 HK4.out (k5.mono (fun _ _ e => .inl e)))
    have HD5 := Lib.hid h5
    have HFA := Lib.hid (dFail_any W.heap.size db mb L4 (crashD r1.1 crash) fail code HCR.out.2.1 w5 h5)
    clear h5 k5
    go_wp2_with fail
    refine HFA.out.mono ?_
    rintro e w6 ⟨rfl, h6, k6⟩
    have HK6 := Lib.hid (HD5.out.keptNew2 HK5.out (k6.mono (fun _ _ e => .inl e)))
    have HD6 := Lib.hid h6
    have hold : OldIs (failD (crashD r1.1 crash) fail code) old := .inl HL1.out.1
    have hdn6 : (failD (crashD r1.1 crash) fail code).down = false := HL1.out.2.down
    have hso := save_old hold hdn6 (y := next) (by have := HP.out.2.2.2; have := HSM.out.2; omega)
    have hdn := (saveD_dn (failD (crashD r1.1 crash) fail code) sN next).2 HC13.out
    have HSV2 := Lib.hid (sSave_any W.heap.size db mb hb0 L4 (failD (crashD r1.1 crash) fail code) sN (by decide) bo m cb next HP.out.2.2.2.symm w6 h6 (HP.out.2.2.1.kept HK6.out) (HNI.out.kept HK6.out) (by have := HP.out.2.2.2; have := HSM.out.2; omega))
    obtain ⟨r, hr⟩ : ∃ r, r = saveD (failD (crashD r1.1 crash) fail code) sN next := ⟨_, rfl⟩
    rw [← hr] at HSV2 hso hdn
    rw [show sN = { data := #[115] } from rfl] at HSV2
    have HSO := Lib.hid (And.intro hso hdn)
    clear h6 k6 hold hdn6 hso hdn hr
    go_wp2_with fail
    refine HSV2.out.mono ?_
    rintro e w7 ⟨L7, rfl, h7, k7, f7⟩
    have HK7 := Lib.hid (HD6.out.keptNew2 HK6.out k7)
    have HD7 := Lib.hid h7
    obtain ⟨z, hz⟩ : ∃ z : Int, z = r.2 := ⟨_, rfl⟩
    rw [← hz] at HSO ⊢
    have HDW := Lib.hid (dDown_any W.heap.size db mb L7 r.1 w7 h7)
    obtain ⟨X, HX⟩ : ∃ X, Hid (OldIs r.1 X ∧ X.length ≤ 65536 ∧ ((z = 0 ∧ X = next) ∨ (z ≠ 0 ∧ X = old))) := by
      rcases HSO.out.1 with ⟨a1, a2⟩ | ⟨a1, a2⟩
      · exact ⟨next, Lib.hid ⟨.inl a2, by have := HP.out.2.2.2; have := HSM.out.2; omega, .inl ⟨a1, rfl⟩⟩⟩
      · exact ⟨old, Lib.hid ⟨a2, by have := HP.out.2.1; have := HSM.out.1; omega, .inr ⟨a1, rfl⟩⟩⟩
    have HZ13 := Lib.hid HSO.out.2
    clear h7 k7 f7 hz
    cases hdw : r.1.down with
    | true =>
      rw [hdw] at HDW
      obtain ⟨D8, hD8⟩ : ∃ D8, D8 = r.1 := ⟨_, rfl⟩
      have HX8 : Hid (OldIs D8 X ∧ D8.down = true) := Lib.hid (by rw [hD8]; exact ⟨HX.out.1, hdw⟩)
      have HD8 : Hid (DK W.heap.size w7 db mb L7 D8) := Lib.hid (by rw [hD8]; exact HD7.out)
      clear hdw hD8
      by_cases hz13 : z = 13
      · subst hz13
        go_wp2_with fail
        refine HDW.out.mono ?_
        rintro e w8 ⟨rfl, rfl⟩
        go_wp2_with fail
        refine HDW.out.mono ?_
        rintro e w8 ⟨rfl, rfl⟩
        have hbc := boot_calm HX8.out.2 keep
        have HBO := Lib.hid (And.intro (boot_old HX8.out.1 keep) hbc)
        have HBT := Lib.hid (dBoot_any W.heap.size db mb L7 D8 ko nk ck keep HKE.out.2 w7 HD8.out (HKE.out.1.kept HK7.out (fun _ _ x => x)) (fun hx j e f => by have h1 := (HKE.out.1.blk hx e).1; have h2 := (HD8.out.lt f).2; omega))
        obtain ⟨rb, hrb⟩ : ∃ rb, rb = bootD D8 keep := ⟨_, rfl⟩
        rw [← hrb] at HBO HBT
        clear hbc hrb
        go_wp2_with fail
        refine HBT.out.mono ?_
        rintro e wb ⟨Lb, rfl, hb, kb, fb⟩
        rw [HBO.out.2.1]
        have HKB := Lib.hid (HD8.out.keptNew2 HK7.out kb)
        have HDB := Lib.hid hb
        obtain ⟨l1, l2, l3⟩ := load_old HBO.out.1 HBO.out.2.2 HX.out.2.1
        have HLD := Lib.hid (sLoad_any W.heap.size db mb hb0 Lb rb.1 sN (by decide) wb hb (HNI.out.kept HKB.out))
        rw [l1, show sN = { data := #[115] } from rfl] at HLD
        have HLL := Lib.hid (And.intro l2 l3)
        clear hb kb fb l1 l2 l3
        go_wp2_with fail
        refine HLD.out.mono ?_
        rintro e wl ⟨Ll, la, lc, rfl, hl, kl, fl, hlr, hln⟩
        dsimp only at hl hlr ⊢
        have HKL := Lib.hid (HDB.out.keptNew2 HKB.out kl)
        have HLR := Lib.hid hlr
        have HNM := Lib.hid (dNames_any W.heap.size db mb Ll (tidyD rb.1 nxN).1 wl hl)
        rw [show namesUp (tidyD rb.1 nxN).1 = [sN] from by unfold namesUp namesA; rw [HLL.out.2, HLL.out.1]; rfl] at HNM
        obtain ⟨lx, hlx⟩ : ∃ lx, lx = X.length := ⟨_, rfl⟩
        rw [← hlx] at HLR ⊢
        clear hl kl fl hlr hln hlx
        go_wp2_with fail
        refine HNM.out.mono ?_
        rintro e wn ⟨nv, rfl, hmn⟩
        obtain ⟨na, nc, hnv⟩ := hmn.slice
        subst hnv
        have HKN := Lib.hid (HKL.out.trans hmn.kept)
        have cX := conv8 (HLR.out.kept hmn.kept)
        have cN := conv8 (HP.out.2.2.1.kept HKN.out)
        have cO := conv8 (HP.out.1.kept HKN.out)
        have HXX := Lib.hid HX.out.2.2
        obtain ⟨TX, hTX⟩ : ∃ T, T = strN X := ⟨_, rfl⟩
        obtain ⟨TN, hTN⟩ : ∃ T, T = strN next := ⟨_, rfl⟩
        obtain ⟨TO, hTO⟩ : ∃ T, T = strN old := ⟨_, rfl⟩
        rw [← hTX] at cX
        rw [← hTN] at cN
        rw [← hTO] at cO
        have HT : Hid (((13 : Int) = 0 ∧ TX = TN) ∨ ((13 : Int) ≠ 0 ∧ TX = TO)) := Lib.hid (by
          rcases HXX.out with ⟨a, b⟩ | ⟨a, b⟩
          · exact .inl ⟨a, by rw [hTX, hTN, b]⟩
          · exact .inr ⟨a, by rw [hTX, hTO, b]⟩)
        clear hmn hTX hTN hTO
        dsimp only [strs, List.map_cons, List.map_nil, List.length_cons, List.length_nil]
        obtain rfl : TX = TO := by
          rcases HT.out with ⟨a, _⟩ | ⟨_, b⟩
          · exact absurd a (by decide)
          · exact b
        have qt : (TX.toList == TX.toList) = true := beq_self_eq_true _
        by_cases hte : TX = TN
        · subst hte
          go_wp2
          go_ret
          exact ⟨rfl, HKN.out⟩
        · have qe : (TX.toList == TN.toList) = false := toList_ne hte
          clear hte
          go_wp2
          go_ret
          exact ⟨rfl, HKN.out⟩
      · have q6 : (z == 13) = false := beq_eq_false_iff_ne.2 hz13
        clear hz13
        go_wp2_with fail
        refine HDW.out.mono ?_
        rintro e w8 ⟨rfl, rfl⟩
        have hbc := boot_calm HX8.out.2 keep
        have HBO := Lib.hid (And.intro (boot_old HX8.out.1 keep) hbc)
        have HBT := Lib.hid (dBoot_any W.heap.size db mb L7 D8 ko nk ck keep HKE.out.2 w7 HD8.out (HKE.out.1.kept HK7.out (fun _ _ x => x)) (fun hx j e f => by have h1 := (HKE.out.1.blk hx e).1; have h2 := (HD8.out.lt f).2; omega))
        obtain ⟨rb, hrb⟩ : ∃ rb, rb = bootD D8 keep := ⟨_, rfl⟩
        rw [← hrb] at HBO HBT
        clear hbc hrb
        go_wp2_with fail
        refine HBT.out.mono ?_
        rintro e wb ⟨Lb, rfl, hb, kb, fb⟩
        rw [HBO.out.2.1]
        have HKB := Lib.hid (HD8.out.keptNew2 HK7.out kb)
        have HDB := Lib.hid hb
        obtain ⟨l1, l2, l3⟩ := load_old HBO.out.1 HBO.out.2.2 HX.out.2.1
        have HLD := Lib.hid (sLoad_any W.heap.size db mb hb0 Lb rb.1 sN (by decide) wb hb (HNI.out.kept HKB.out))
        rw [l1, show sN = { data := #[115] } from rfl] at HLD
        have HLL := Lib.hid (And.intro l2 l3)
        clear hb kb fb l1 l2 l3
        go_wp2_with fail
        refine HLD.out.mono ?_
        rintro e wl ⟨Ll, la, lc, rfl, hl, kl, fl, hlr, hln⟩
        dsimp only at hl hlr ⊢
        have HKL := Lib.hid (HDB.out.keptNew2 HKB.out kl)
        have HLR := Lib.hid hlr
        have HNM := Lib.hid (dNames_any W.heap.size db mb Ll (tidyD rb.1 nxN).1 wl hl)
        rw [show namesUp (tidyD rb.1 nxN).1 = [sN] from by unfold namesUp namesA; rw [HLL.out.2, HLL.out.1]; rfl] at HNM
        obtain ⟨lx, hlx⟩ : ∃ lx, lx = X.length := ⟨_, rfl⟩
        rw [← hlx] at HLR ⊢
        clear hl kl fl hlr hln hlx
        go_wp2_with fail
        refine HNM.out.mono ?_
        rintro e wn ⟨nv, rfl, hmn⟩
        obtain ⟨na, nc, hnv⟩ := hmn.slice
        subst hnv
        have HKN := Lib.hid (HKL.out.trans hmn.kept)
        have cX := conv8 (HLR.out.kept hmn.kept)
        have cN := conv8 (HP.out.2.2.1.kept HKN.out)
        have cO := conv8 (HP.out.1.kept HKN.out)
        have HXX := Lib.hid HX.out.2.2
        obtain ⟨TX, hTX⟩ : ∃ T, T = strN X := ⟨_, rfl⟩
        obtain ⟨TN, hTN⟩ : ∃ T, T = strN next := ⟨_, rfl⟩
        obtain ⟨TO, hTO⟩ : ∃ T, T = strN old := ⟨_, rfl⟩
        rw [← hTX] at cX
        rw [← hTN] at cN
        rw [← hTO] at cO
        have HT : Hid ((z = 0 ∧ TX = TN) ∨ (z ≠ 0 ∧ TX = TO)) := Lib.hid (by
          rcases HXX.out with ⟨a, b⟩ | ⟨a, b⟩
          · exact .inl ⟨a, by rw [hTX, hTN, b]⟩
          · exact .inr ⟨a, by rw [hTX, hTO, b]⟩)
        clear hmn hTX hTN hTO
        dsimp only [strs, List.map_cons, List.map_nil, List.length_cons, List.length_nil]
        rcases HT.out with ⟨rfl, rfl⟩ | ⟨hz0, rfl⟩
        · have qt : (TX.toList == TX.toList) = true := beq_self_eq_true _
          go_wp2
          go_ret
          exact ⟨rfl, HKN.out⟩
        · have q0 : (z == 0) = false := beq_eq_false_iff_ne.2 hz0
          clear hz0
          have qt : (TX.toList == TX.toList) = true := beq_self_eq_true _
          go_wp2
          go_ret
          exact ⟨rfl, HKN.out⟩
    | false =>
      rw [hdw] at HDW
      have hz13 : z ≠ 13 := fun e => by rw [HZ13.out e] at hdw; cases hdw
      have q6 : (z == 13) = false := beq_eq_false_iff_ne.2 hz13
      obtain ⟨o1, o2⟩ := off_any hdw
      have HO := Lib.hid (And.intro o1 o2)
      have HCH2 := Lib.hid (dCrash_any W.heap.size db mb L7 r.1 0 (by unfold I64; omega) w7 HD7.out)
      clear hdw hz13 o1 o2
      go_wp2_with fail
      refine HDW.out.mono ?_
      rintro e w8 ⟨rfl, rfl⟩
      go_wp2_with fail
      refine HCH2.out.mono ?_
      rintro e w8 ⟨rfl, h8, k8⟩
      have HK8 := Lib.hid (HD7.out.keptNew2 HK7.out (k8.mono (fun _ _ e => .inl e)))
      have HD8' := Lib.hid h8
      have HSY := Lib.hid (dSync_any W.heap.size db mb L7 (crashD r.1 0) sN (by decide) w8 h8)
      rw [show sN = { data := #[115] } from rfl] at HSY
      clear h8 k8
      go_wp2_with fail
      refine HSY.out.mono ?_
      rintro e w9 ⟨L9, rfl, h9, k9, f9⟩
      obtain ⟨D8, hD8⟩ : ∃ D8, D8 = (syncD (crashD r.1 0) sN).1 := ⟨_, rfl⟩
      have HX8 : Hid (OldIs D8 X ∧ D8.down = true) := Lib.hid (by rw [hD8]; exact ⟨HX.out.1.of HO.out.2, HO.out.1⟩)
      have HK9 := Lib.hid (HD8'.out.keptNew2 HK8.out k9)
      have HD8 : Hid (DK W.heap.size w9 db mb L9 D8) := Lib.hid (by rw [hD8]; exact h9)
      clear h9 k9 f9 hD8
      have hbc := boot_calm HX8.out.2 keep
      have HBO := Lib.hid (And.intro (boot_old HX8.out.1 keep) hbc)
      have HBT := Lib.hid (dBoot_any W.heap.size db mb L9 D8 ko nk ck keep HKE.out.2 w9 HD8.out (HKE.out.1.kept HK9.out (fun _ _ x => x)) (fun hx j e f => by have h1 := (HKE.out.1.blk hx e).1; have h2 := (HD8.out.lt f).2; omega))
      obtain ⟨rb, hrb⟩ : ∃ rb, rb = bootD D8 keep := ⟨_, rfl⟩
      rw [← hrb] at HBO HBT
      clear hbc hrb
      go_wp2_with fail
      refine HBT.out.mono ?_
      rintro e wb ⟨Lb, rfl, hb, kb, fb⟩
      rw [HBO.out.2.1]
      have HKB := Lib.hid (HD8.out.keptNew2 HK9.out kb)
      have HDB := Lib.hid hb
      obtain ⟨l1, l2, l3⟩ := load_old HBO.out.1 HBO.out.2.2 HX.out.2.1
      have HLD := Lib.hid (sLoad_any W.heap.size db mb hb0 Lb rb.1 sN (by decide) wb hb (HNI.out.kept HKB.out))
      rw [l1, show sN = { data := #[115] } from rfl] at HLD
      have HLL := Lib.hid (And.intro l2 l3)
      clear hb kb fb l1 l2 l3
      go_wp2_with fail
      refine HLD.out.mono ?_
      rintro e wl ⟨Ll, la, lc, rfl, hl, kl, fl, hlr, hln⟩
      dsimp only at hl hlr ⊢
      have HKL := Lib.hid (HDB.out.keptNew2 HKB.out kl)
      have HLR := Lib.hid hlr
      have HNM := Lib.hid (dNames_any W.heap.size db mb Ll (tidyD rb.1 nxN).1 wl hl)
      rw [show namesUp (tidyD rb.1 nxN).1 = [sN] from by unfold namesUp namesA; rw [HLL.out.2, HLL.out.1]; rfl] at HNM
      obtain ⟨lx, hlx⟩ : ∃ lx, lx = X.length := ⟨_, rfl⟩
      rw [← hlx] at HLR ⊢
      clear hl kl fl hlr hln hlx
      go_wp2_with fail
      refine HNM.out.mono ?_
      rintro e wn ⟨nv, rfl, hmn⟩
      obtain ⟨na, nc, hnv⟩ := hmn.slice
      subst hnv
      have HKN := Lib.hid (HKL.out.trans hmn.kept)
      have cX := conv8 (HLR.out.kept hmn.kept)
      have cN := conv8 (HP.out.2.2.1.kept HKN.out)
      have cO := conv8 (HP.out.1.kept HKN.out)
      have HXX := Lib.hid HX.out.2.2
      obtain ⟨TX, hTX⟩ : ∃ T, T = strN X := ⟨_, rfl⟩
      obtain ⟨TN, hTN⟩ : ∃ T, T = strN next := ⟨_, rfl⟩
      obtain ⟨TO, hTO⟩ : ∃ T, T = strN old := ⟨_, rfl⟩
      rw [← hTX] at cX
      rw [← hTN] at cN
      rw [← hTO] at cO
      have HT : Hid ((z = 0 ∧ TX = TN) ∨ (z ≠ 0 ∧ TX = TO)) := Lib.hid (by
        rcases HXX.out with ⟨a, b⟩ | ⟨a, b⟩
        · exact .inl ⟨a, by rw [hTX, hTN, b]⟩
        · exact .inr ⟨a, by rw [hTX, hTO, b]⟩)
      clear hmn hTX hTN hTO
      dsimp only [strs, List.map_cons, List.map_nil, List.length_cons, List.length_nil]
      rcases HT.out with ⟨rfl, rfl⟩ | ⟨hz0, rfl⟩
      · have qt : (TX.toList == TX.toList) = true := beq_self_eq_true _
        go_wp2
        go_ret
        exact ⟨rfl, HKN.out⟩
      · have q0 : (z == 0) = false := beq_eq_false_iff_ne.2 hz0
        clear hz0
        have qt : (TX.toList == TX.toList) = true := beq_self_eq_true _
        go_wp2
        go_ret
        exact ⟨rfl, HKN.out⟩

theorem snapWhole_walk (a0 : Option Addr) (len0 cap0 : Nat) (z0 : List Int) (a1 : Option Addr) (len1 cap1 : Nat) (z1 : List Int) (a2 a3 a4 a5 : Int) (a6 : Option Addr) (len6 cap6 : Nat) (z6 : List Int) (W : World) (w0 : IsRow .u8 W a0 len0 cap0 z0) (w1 : IsRow .u8 W a1 len1 cap1 z1)
    (w2 : -9223372036854775808 ≤ a2 ∧ a2 ≤ 9223372036854775807) (w3 : -9223372036854775808 ≤ a3 ∧ a3 ≤ 9223372036854775807) (w4 : -9223372036854775808 ≤ a4 ∧ a4 ≤ 9223372036854775807) (_w5 : -9223372036854775808 ≤ a5 ∧ a5 ≤ 9223372036854775807) (w6 : IsRow .i64 W a6 len6 cap6 z6) (HN : Nibs W) :
    Calls Tryd.prog 9 #[.slice a0 len0 cap0, .slice a1 len1 cap1, .int .i64 a2, .int .i64 a3, .int .i64 a4, .int .i64 a5, .slice a6 len6 cap6] W fun e w' => e = .returned (.bool true) ∧ Kept (fun _ => False) W w' := by
  obtain ⟨l0, e0, h0, _⟩ := w0.row8
  obtain ⟨l1, e1, h1, _⟩ := w1.row8
  obtain ⟨l6, e6, h6, _⟩ := isRow_vals2 w6
  rw [e0] at h0
  rw [e1] at h1
  exact whole_walk a0 len0 cap0 l0 a1 len1 cap1 l1 a2 a3 a4 a5 a6 len6 cap6 l6 W HN h0 e0 h1 e1 h6 e6 w3 w4 w2
end Go.Proofs.YtficodklidaheaaDoor
