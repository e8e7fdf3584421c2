/- Layer 20: Save (written by tools/gen_XWR.py). -/
import Derived.Test.YtficodklidaheaaDoorWQ
import Derived.Test.YtficodklidaheaaDoorS8
import Derived.Test.YtficodklidaheaaDoorSA
import Derived.Test.YtficodklidaheaaDoorWD
import Derived.ScopeJumps
import Derived.WalkMore
namespace Go.Proofs.YtficodklidaheaaDoor
open Go.RowKit
attribute [local go_sem ↓] Go.wp_at_zero Go.wp_at_succ

/-- A disk behind some of Save's calls: r is what they left; v: the world in which they began. -/
def SoFar (base : Nat) (w v : World) (db mb : Nat) (L : List (ByteArray × Fi)) (r : DA × Int) (w' : World) : Prop :=
  ∃ L', DK base w' db mb L' r.1 ∧ Kept (foot db mb L) w w' ∧ Foot w db mb L L' ∧ (∀ j, foot db mb L' j → j < w.heap.size ∨ v.heap.size ≤ j) ∧ Kept (fun j => j < w.heap.size ∨ v.heap.size ≤ j) v w'
theorem SoFar.start {base : Nat} {w w' : World} {db mb : Nat} {L : List (ByteArray × Fi)} {D : DA} {z : Int} (h : DK base w db mb L D) (k : Kept (fun _ => False) w w') : SoFar base w w' db mb L (D, z) w' :=
  ⟨L, h.kept k (fun _ _ x => x), k.mono (fun _ _ x => x.elim), Foot.refl _ _ _ _, fun _ f => .inl (h.lt f).1, Kept.refl _ _⟩
theorem SoFar.step {base : Nat} {w v w1 w2 : World} {db mb : Nat} {L L1 : List (ByteArray × Fi)} {r2 : DA × Int} {e : Ending} (k1 : Kept (foot db mb L) w w1) (f1 : Foot w db mb L L1) (s1 : ∀ j, foot db mb L1 j → j < w.heap.size ∨ v.heap.size ≤ j) (v1 : Kept (fun j => j < w.heap.size ∨ v.heap.size ≤ j) v w1) (t : DTo base w1 db mb L1 r2 e w2) : e = .returned (.int .i64 r2.2) ∧ SoFar base w v db mb L r2 w2 := by
  obtain ⟨L2, he, h2, k2, f2⟩ := t
  refine ⟨he, L2, h2, ⟨k2.os.trans k1.os, k2.tape.trans k1.tape, k2.output.trans k1.output, Nat.le_trans k1.size k2.size, fun j hj hn => ?_⟩, fun j x => ?_, fun j x => ?_, v1.trans (k2.mono (fun j _ x => s1 j x))⟩
  · have h3 := k1.block j hj hn
    rw [← h3]
    refine k2.block j (Nat.lt_of_lt_of_le hj k1.size) (fun f => ?_)
    rcases f1 j f with x | x
    · exact hn x
    · omega
  · rcases f2 j x with y | y
    · exact f1 j y
    · exact .inr (Nat.le_trans k1.size y)
  · rcases f2 j x with y | y
    · exact s1 j y
    · exact .inr (Nat.le_trans v1.size y)
theorem thenD_ne {r : DA × Int} {f : DA → DA × Int} (h : r.2 ≠ 0) : thenD r f = r := if_neg h
theorem thenD_eq {r : DA × Int} {f : DA → DA × Int} (h : r.2 = 0) : thenD r f = f r.1 := if_pos h
theorem SoFar.to {base : Nat} {w v w' : World} {db mb : Nat} {L : List (ByteArray × Fi)} {r : DA × Int} (h : SoFar base w v db mb L r w') : DTo base w db mb L r (.returned (.int .i64 r.2)) w' := by
  obtain ⟨L', h1, h2, h3, _⟩ := h
  exact ⟨L', rfl, h1, h2, h3⟩
/-- What holds at Save's label. -/
def AtFail (base : Nat) (w v : World) (db mb : Nat) (L : List (ByteArray × Fi)) (nx : ByteArray) (r : DA × Int) (a' : Act) (w' : World) : Prop :=
  (∃ u1 u2 u3 u4 u5 u6 u7 u10 u11 u12 u13 u14 u15 u16 u17 u18 u19 u20 u21 u22 u23 u24 u25 u26 u27 u28 u29 u30 u31 u32 u33 u34 u35 u36 u37 u38 u39 u40 u41 u42 u43 u44 u45 u46 u47 u48 u49 u50 u51 u52 u53 u54 u55 : Value, a' = { tmps := List.toArray [.pointer (some ⟨db, 0, none⟩), u1, u2, u3, u4, u5, u6, u7, .int .i64 r.2, .string nx, u10, u11, u12, u13, u14, u15, u16, u17, u18, u19, u20, u21, u22, u23, u24, u25, u26, u27, u28, u29, u30, u31, u32, u33, u34, u35, u36, u37, u38, u39, u40, u41, u42, u43, u44, u45, u46, u47, u48, u49, u50, u51, u52, u53, u54, u55], defers := [] }) ∧ r.2 ≠ 0 ∧ SoFar base w v db mb L r w'

set_option maxRecDepth 100000 in
set_option maxHeartbeats 2000000 in
theorem sSave_any (base db mb : Nat) (hb0 : 0 < base) (L : List (ByteArray × Fi)) (D : DA) (s : ByteArray) (hs : s.size ≤ 1000) (ao : Option Addr) (pn c : Nat) (l : List Nat) (hpn : pn = l.length) (w : World) (h : DK base w db mb L D) (HB : Row8 w (.slice ao pn c) l) (HN : Nibs w) (hl9 : l.length ≤ 1000000000) :
    Calls Tryd.prog 39 #[.pointer (some ⟨db, 0, none⟩), .string s, .slice ao pn c] w (DTo base w db mb L (saveD D s l)) := by
  have HH := Lib.hid h
  have HNI := Lib.hid (And.intro HN hb0)
  have HSZ := Lib.hid (show s.size ≤ maxLen ∧ (s ++ nwN).size ≤ maxLen by
    have : (s ++ nwN).size = s.size + nwN.size := by simp
    have h4 : nwN.size = 4 := rfl
    unfold maxLen
    omega)
  by_cases h1 : 28 < s.size
  · have q1 : (28 : Int) < (s.size : Int) := by omega
    have HX : Hid (saveD D s l = (D, 3)) := Lib.hid (by unfold saveD; rw [if_pos h1])
    rw [HX.out]
    clear h HB HN h1 hpn
    go_enter Tryd.func39, Tryd.ntmps39
    go_wp2
    go_step3
    go_wp2
    go_ret
    exact (SoFar.start HH.out (Kept.refl _ _)).to
  have q1 : ¬ (28 : Int) < (s.size : Int) := by omega
  by_cases h2 : 65536 < l.length
  · have HX : Hid (saveD D s l = (D, 4)) := Lib.hid (by unfold saveD; rw [if_neg h1, if_pos h2])
    have HW := Lib.hid (wrap_large ao pn c (by omega) w)
    rw [HX.out]
    clear h HB HN h1 h2 hpn
    go_enter Tryd.func39, Tryd.ntmps39
    go_wp2
    go_step3
    go_wp2_with fail
    refine HW.out.mono ?_
    rintro e w1 ⟨rfl, rfl⟩
    go_wp2
    go_ret
    exact (SoFar.start HH.out (Kept.refl _ _)).to
  have HW := Lib.hid (wrap_any (.slice ao pn c) l (by omega) w HB HN)
  have HLT := Lib.hid (And.intro (frameL_lt l HB.lt) (show (frameL l).length ≤ 100000 by rw [frameL_len]; omega))
  obtain ⟨r, hr⟩ : ∃ r, r = triesD D (s ++ nwN) s (frameL l) := ⟨_, rfl⟩
  have HX : Hid (saveD D s l = undoD r (s ++ nwN)) := Lib.hid (by unfold saveD; rw [if_neg h1, if_neg h2, hr])
  obtain ⟨R, hRR⟩ : ∃ R, R = undoD r (s ++ nwN) := ⟨_, rfl⟩
  rw [HX.out, ← hRR]
  obtain ⟨nx, hnx⟩ : ∃ nx, nx = s ++ nwN := ⟨_, rfl⟩
  rw [← hnx] at hr HSZ hRR
  have HRU := Lib.hid hRR
  have HNX := Lib.hid hnx
  have HR := Lib.hid hr
  have qn : s ++ ({ data := #[46, 110, 101, 119] } : ByteArray) = nx := hnx.symm
  clear h HB HN h1 h2 hr hnx hpn hRR
  go_enter Tryd.func39, Tryd.ntmps39
  go_wp2
  refine wp_scope_jumps 0 (fun a' w' => ∃ v, AtFail base w v db mb L nx r a' w') (fun _ _ => 0) rfl ?_ ?_
  · go_wp2_with fail
    refine HW.out.mono ?_
    rintro e w1 ⟨fv, rfl, hown, hk1⟩
    obtain ⟨fa, fc, rfl⟩ := ownsRow_slice hown
    obtain ⟨fl, hfl⟩ : ∃ fl, fl = 9 + l.length := ⟨_, rfl⟩
    rw [← hfl] at hown ⊢
    obtain ⟨F, hF⟩ : ∃ F, F = frameL l := ⟨_, rfl⟩
    rw [← hF] at hown HLT HR
    have HFL : Hid (F.length = fl) := Lib.hid (by rw [hF, hfl, frameL_len])
    have HK1 := Lib.hid hk1
    have HFB := Lib.hid (show ∀ j, (Value.slice fa fl fc).ownBlock = some j → w.heap.size ≤ j ∧ j < w1.heap.size from fun j e => ⟨(ownsRow_lt hown e).2, (ownsRow_lt hown e).1⟩)
    have HAT : Hid (SlAt w1 (.slice fa fl fc) (byV F)) := Lib.hid (SlAt.ofOwn hown)
    obtain ⟨L1, hd1⟩ := SoFar.start (z := 0) HH.out hk1
    have HD1 := Lib.hid hd1
    have HAL := Lib.hid (show ∀ j, foot db mb L j → j < w.heap.size from fun j f => (HH.out.lt f).1)
    clear hown hk1 hfl hF hd1
    have HC1 := Lib.hid (sTidy_any base db mb L1 D nx HSZ.out.2 w1 HD1.out.1)
    obtain ⟨r1, hr1⟩ : ∃ r, r = tidyD D nx := ⟨_, rfl⟩
    rw [← hr1] at HC1
    have HR1 := Lib.hid hr1
    clear hr1
    go_wp2_with fail
    refine HC1.out.mono ?_
    intro e w2 ht
    obtain ⟨he, hsf⟩ := SoFar.step HD1.out.2.1 HD1.out.2.2.1 HD1.out.2.2.2.1 HD1.out.2.2.2.2 ht
    subst he
    have HSF1 := Lib.hid hsf
    clear ht hsf
    obtain ⟨z1, hz1⟩ : ∃ z : Int, z = r1.2 := ⟨_, rfl⟩
    rw [← hz1]
    by_cases h0 : z1 = 0
    · have HZ1 : Hid (r1.2 = 0) := Lib.hid (by rw [← hz1]; exact h0)
      subst h0
      clear hz1
      obtain ⟨L2, hd2⟩ := HSF1.out
      have HD2 := Lib.hid hd2
      clear hd2
      have HC2 := Lib.hid (dCreate_any base db mb L2 r1.1 nx HSZ.out.2 w2 HD2.out.1)
      obtain ⟨r2, hr2⟩ : ∃ r, r = createD r1.1 nx := ⟨_, rfl⟩
      rw [← hr2] at HC2
      have HR2 := Lib.hid hr2
      clear hr2
      go_wp2_with fail
      refine HC2.out.mono ?_
      intro e w3 ht
      obtain ⟨he, hsf⟩ := SoFar.step HD2.out.2.1 HD2.out.2.2.1 HD2.out.2.2.2.1 HD2.out.2.2.2.2 ht
      subst he
      have HSF2 := Lib.hid hsf
      clear ht hsf
      obtain ⟨z2, hz2⟩ : ∃ z : Int, z = r2.2 := ⟨_, rfl⟩
      rw [← hz2]
      by_cases h0 : z2 = 0
      · have HZ2 : Hid (r2.2 = 0) := Lib.hid (by rw [← hz2]; exact h0)
        subst h0
        clear hz2
        obtain ⟨L3, hd3⟩ := HSF2.out
        have HD3 := Lib.hid hd3
        clear hd3
        have HAT3 : Hid (SlAt w3 (.slice fa fl fc) (byV F)) := Lib.hid (HAT.out.kept HD3.out.2.2.2.2 (fun j e f => by have h1 := HFB.out j e; rcases f with x | x <;> omega))
        have HC3 := Lib.hid (dAppend_any base db mb L3 r2.1 nx HSZ.out.2 fa fl fc F HFL.out HLT.out.1 (by have := HLT.out.2; have := HFL.out; omega) w3 HD3.out.1 HAT3.out (fun _ j e x => by have h1 := (HFB.out j e).1; have h2 := HAL.out db (.inl rfl); omega))
        obtain ⟨r3, hr3⟩ : ∃ r, r = appendD r2.1 nx F := ⟨_, rfl⟩
        rw [← hr3] at HC3
        have HR3 := Lib.hid hr3
        clear hr3
        go_wp2_with fail
        refine HC3.out.mono ?_
        intro e w4 ht
        obtain ⟨he, hsf⟩ := SoFar.step HD3.out.2.1 HD3.out.2.2.1 HD3.out.2.2.2.1 HD3.out.2.2.2.2 ht
        subst he
        have HSF3 := Lib.hid hsf
        clear ht hsf
        obtain ⟨z3, hz3⟩ : ∃ z : Int, z = r3.2 := ⟨_, rfl⟩
        rw [← hz3]
        by_cases h0 : z3 = 0
        · have HZ3 : Hid (r3.2 = 0) := Lib.hid (by rw [← hz3]; exact h0)
          subst h0
          clear hz3
          obtain ⟨L4, hd4⟩ := HSF3.out
          have HD4 := Lib.hid hd4
          clear hd4
          have HC4 := Lib.hid (dSync_any base db mb L4 r3.1 nx HSZ.out.2 w4 HD4.out.1)
          obtain ⟨r4, hr4⟩ : ∃ r, r = syncD r3.1 nx := ⟨_, rfl⟩
          rw [← hr4] at HC4
          have HR4 := Lib.hid hr4
          clear hr4
          go_wp2_with fail
          refine HC4.out.mono ?_
          intro e w5 ht
          obtain ⟨he, hsf⟩ := SoFar.step HD4.out.2.1 HD4.out.2.2.1 HD4.out.2.2.2.1 HD4.out.2.2.2.2 ht
          subst he
          have HSF4 := Lib.hid hsf
          clear ht hsf
          obtain ⟨z4, hz4⟩ : ∃ z : Int, z = r4.2 := ⟨_, rfl⟩
          rw [← hz4]
          by_cases h0 : z4 = 0
          · have HZ4 : Hid (r4.2 = 0) := Lib.hid (by rw [← hz4]; exact h0)
            subst h0
            clear hz4
            obtain ⟨L5, hd5⟩ := HSF4.out
            have HD5 := Lib.hid hd5
            clear hd5
            have HC5 := Lib.hid (dRename_any base db mb L5 r4.1 nx s HSZ.out.2 HSZ.out.1 w5 HD5.out.1)
            obtain ⟨r5, hr5⟩ : ∃ r, r = renameD r4.1 nx s := ⟨_, rfl⟩
            rw [← hr5] at HC5
            have HR5 := Lib.hid hr5
            clear hr5
            go_wp2_with fail
            refine HC5.out.mono ?_
            intro e w6 ht
            obtain ⟨he, hsf⟩ := SoFar.step HD5.out.2.1 HD5.out.2.2.1 HD5.out.2.2.2.1 HD5.out.2.2.2.2 ht
            subst he
            have HSF5 := Lib.hid hsf
            clear ht hsf
            obtain ⟨z5, hz5⟩ : ∃ z : Int, z = r5.2 := ⟨_, rfl⟩
            rw [← hz5]
            by_cases h0 : z5 = 0
            · have HZ5 : Hid (r5.2 = 0) := Lib.hid (by rw [← hz5]; exact h0)
              subst h0
              clear hz5
              have HRR : Hid (r = r5) := Lib.hid (by rw [HR.out]; unfold triesD; rw [← HR1.out]; rw [thenD_eq HZ1.out]; rw [← HR2.out]; rw [thenD_eq HZ2.out]; rw [← HR3.out]; rw [thenD_eq HZ3.out]; rw [← HR4.out]; rw [thenD_eq HZ4.out]; rw [← HR5.out])
              have HU : Hid (R = r5) := Lib.hid (by rw [HRU.out, HRR.out]; unfold undoD; rw [if_pos (.inl HZ5.out)])
              have HF := Lib.hid HSF5.out.to
              rw [HZ5.out, ← HU.out] at HF
              go_wp2
              simp only [Exit.jump]
              go_ret
              exact HF.out
            · have q0 : (z5 != 0) = true := by simp [bne, beq_eq_false_iff_ne.2 h0]
              have HZ5 : Hid (r5.2 ≠ 0) := Lib.hid (by rw [← hz5]; exact h0)
              have HRR : Hid (r = r5) := Lib.hid (by rw [HR.out]; unfold triesD; rw [← HR1.out]; rw [thenD_eq HZ1.out]; rw [← HR2.out]; rw [thenD_eq HZ2.out]; rw [← HR3.out]; rw [thenD_eq HZ3.out]; rw [← HR4.out]; rw [thenD_eq HZ4.out]; rw [← HR5.out])
              have HAF := Lib.hid (show r.2 ≠ 0 ∧ SoFar base w w1 db mb L r w6 by rw [HRR.out]; exact ⟨HZ5.out, HSF5.out⟩)
              have HZR : Hid (z5 = r.2) := Lib.hid (by rw [HRR.out]; exact hz5)
              clear h0 hz5
              go_wp2
              go_step3
              rw [HZR.out]
              exact ⟨rfl, w1, ⟨_, _, _, _, _, _, _, _, _, _, _, _, _, _, _, _, _, _, _, _, _, _, _, _, _, _, _, _, _, _, _, _, _, _, _, _, _, _, _, _, _, _, _, _, _, _, _, _, _, _, _, _, _, rfl⟩, HAF.out⟩
          · have q0 : (z4 != 0) = true := by simp [bne, beq_eq_false_iff_ne.2 h0]
            have HZ4 : Hid (r4.2 ≠ 0) := Lib.hid (by rw [← hz4]; exact h0)
            have HRR : Hid (r = r4) := Lib.hid (by rw [HR.out]; unfold triesD; rw [← HR1.out]; rw [thenD_eq HZ1.out]; rw [← HR2.out]; rw [thenD_eq HZ2.out]; rw [← HR3.out]; rw [thenD_eq HZ3.out]; rw [← HR4.out]; rw [thenD_ne HZ4.out])
            have HAF := Lib.hid (show r.2 ≠ 0 ∧ SoFar base w w1 db mb L r w5 by rw [HRR.out]; exact ⟨HZ4.out, HSF4.out⟩)
            have HZR : Hid (z4 = r.2) := Lib.hid (by rw [HRR.out]; exact hz4)
            clear h0 hz4
            go_wp2
            go_step3
            rw [HZR.out]
            exact ⟨rfl, w1, ⟨_, _, _, _, _, _, _, _, _, _, _, _, _, _, _, _, _, _, _, _, _, _, _, _, _, _, _, _, _, _, _, _, _, _, _, _, _, _, _, _, _, _, _, _, _, _, _, _, _, _, _, _, _, rfl⟩, HAF.out⟩
        · have q0 : (z3 != 0) = true := by simp [bne, beq_eq_false_iff_ne.2 h0]
          have HZ3 : Hid (r3.2 ≠ 0) := Lib.hid (by rw [← hz3]; exact h0)
          have HRR : Hid (r = r3) := Lib.hid (by rw [HR.out]; unfold triesD; rw [← HR1.out]; rw [thenD_eq HZ1.out]; rw [← HR2.out]; rw [thenD_eq HZ2.out]; rw [← HR3.out]; rw [thenD_ne HZ3.out])
          have HAF := Lib.hid (show r.2 ≠ 0 ∧ SoFar base w w1 db mb L r w4 by rw [HRR.out]; exact ⟨HZ3.out, HSF3.out⟩)
          have HZR : Hid (z3 = r.2) := Lib.hid (by rw [HRR.out]; exact hz3)
          clear h0 hz3
          go_wp2
          go_step3
          rw [HZR.out]
          exact ⟨rfl, w1, ⟨_, _, _, _, _, _, _, _, _, _, _, _, _, _, _, _, _, _, _, _, _, _, _, _, _, _, _, _, _, _, _, _, _, _, _, _, _, _, _, _, _, _, _, _, _, _, _, _, _, _, _, _, _, rfl⟩, HAF.out⟩
      · have q0 : (z2 != 0) = true := by simp [bne, beq_eq_false_iff_ne.2 h0]
        have HZ2 : Hid (r2.2 ≠ 0) := Lib.hid (by rw [← hz2]; exact h0)
        have HRR : Hid (r = r2) := Lib.hid (by rw [HR.out]; unfold triesD; rw [← HR1.out]; rw [thenD_eq HZ1.out]; rw [← HR2.out]; rw [thenD_ne HZ2.out])
        have HAF := Lib.hid (show r.2 ≠ 0 ∧ SoFar base w w1 db mb L r w3 by rw [HRR.out]; exact ⟨HZ2.out, HSF2.out⟩)
        have HZR : Hid (z2 = r.2) := Lib.hid (by rw [HRR.out]; exact hz2)
        clear h0 hz2
        go_wp2
        go_step3
        rw [HZR.out]
        exact ⟨rfl, w1, ⟨_, _, _, _, _, _, _, _, _, _, _, _, _, _, _, _, _, _, _, _, _, _, _, _, _, _, _, _, _, _, _, _, _, _, _, _, _, _, _, _, _, _, _, _, _, _, _, _, _, _, _, _, _, rfl⟩, HAF.out⟩
    · have q0 : (z1 != 0) = true := by simp [bne, beq_eq_false_iff_ne.2 h0]
      have HZ1 : Hid (r1.2 ≠ 0) := Lib.hid (by rw [← hz1]; exact h0)
      have HRR : Hid (r = r1) := Lib.hid (by rw [HR.out]; unfold triesD; rw [← HR1.out]; rw [thenD_ne HZ1.out])
      have HAF := Lib.hid (show r.2 ≠ 0 ∧ SoFar base w w1 db mb L r w2 by rw [HRR.out]; exact ⟨HZ1.out, HSF1.out⟩)
      have HZR : Hid (z1 = r.2) := Lib.hid (by rw [HRR.out]; exact hz1)
      clear h0 hz1
      go_wp2
      go_step3
      rw [HZR.out]
      exact ⟨rfl, w1, ⟨_, _, _, _, _, _, _, _, _, _, _, _, _, _, _, _, _, _, _, _, _, _, _, _, _, _, _, _, _, _, _, _, _, _, _, _, _, _, _, _, _, _, _, _, _, _, _, _, _, _, _, _, _, rfl⟩, HAF.out⟩
  · rintro a' w' ⟨v, ⟨u1, u2, u3, u4, u5, u6, u7, u10, u11, u12, u13, u14, u15, u16, u17, u18, u19, u20, u21, u22, u23, u24, u25, u26, u27, u28, u29, u30, u31, u32, u33, u34, u35, u36, u37, u38, u39, u40, u41, u42, u43, u44, u45, u46, u47, u48, u49, u50, u51, u52, u53, u54, u55, rfl⟩, hz, hsf⟩
    have HZ := Lib.hid (And.intro hz hsf)
    clear hz hsf
    by_cases h13 : r.2 = 13
    · have HU : Hid (undoD r nx = r) := Lib.hid (by unfold undoD; rw [if_pos (.inr h13)])
      have hUR : R = r := HRU.out.trans HU.out
      have HF := Lib.hid HZ.out.2.to
      rw [h13, ← hUR] at HF
      rw [h13]
      clear h13 hUR
      go_wp2
      simp only [Exit.jump]
      go_ret
      exact HF.out
    · have q13 : (r.2 != 13) = true := by simp [bne, beq_eq_false_iff_ne.2 h13]
      have HU : Hid (undoD r nx = ((tidyD r.1 nx).1, r.2)) := Lib.hid (by unfold undoD; rw [if_neg (fun e => e.elim HZ.out.1 h13)])
      obtain ⟨L9, h9⟩ := HZ.out.2
      have HT := Lib.hid (sTidy_any base db mb L9 r.1 nx HSZ.out.2 w' h9.1)
      have H9 := Lib.hid h9
      obtain ⟨z, hz⟩ : ∃ z : Int, z = r.2 := ⟨_, rfl⟩
      rw [← hz] at q13 ⊢
      have HZE := Lib.hid hz
      clear h13 h9 hz
      go_wp2_with fail
      refine HT.out.mono ?_
      intro e w2 ht
      obtain ⟨he, hsf⟩ := SoFar.step H9.out.2.1 H9.out.2.2.1 H9.out.2.2.2.1 H9.out.2.2.2.2 ht
      subst he
      have HSF := Lib.hid hsf
      clear ht hsf
      go_wp2
      simp only [Exit.jump]
      go_ret
      obtain ⟨L8, h8, k8, f8, _⟩ := HSF.out
      rw [HRU.out, HU.out]
      exact ⟨L8, by rw [← HZE.out]; rfl, h8, k8, f8⟩
end Go.Proofs.YtficodklidaheaaDoor
