/- Texts put together: WT, WW. -/
import Derived.Test.YtficodklidaheaaDoorZz13
import Derived.Test.YtficodklidaheaaDoorZz22
import Derived.Test.YtficodklidaheaaDoorZz23
/- Layer 20: the document's tries, Save (written by tools/gen_XWT.py). -/
namespace Go.Proofs.YtficodklidaheaaDoor
open Go.RowKit
attribute [local go_sem ↓] Go.wp_at_zero Go.wp_at_succ

/-- The document's disk behind some calls. -/
def RSo (w : World) (rb : Nat) (ao : Option Addr) (L : List RF) (r : DA × Int) (w' : World) : Prop := ∃ ao' cp' L', RK w' rb ao' cp' L' r.1 ∧ Kept (fun k => k = rb) w w' ∧ RFoot w rb ao L ao' L'
theorem RSo.start {w : World} {rb cp : Nat} {ao : Option Addr} {L : List RF} {D : DA} {z : Int} (h : RK w rb ao cp L D) : RSo w rb ao L (D, z) w := ⟨ao, cp, L, h, Kept.refl _ _, RFoot.refl _ _ _ _⟩
theorem RSo.step {w w1 w2 : World} {rb : Nat} {ao ao1 : Option Addr} {L L1 : List RF} {r2 : DA × Int} {e : Ending} (k1 : Kept (fun k => k = rb) w w1) (f1 : RFoot w rb ao L ao1 L1) (t : RTo w1 rb ao1 L1 r2 e w2) : e = .returned (.int .i64 r2.2) ∧ RSo w rb ao L r2 w2 := by
  obtain ⟨a2, c2, L2, he, h2, k2, f2⟩ := RTo.after k1 f1 t
  exact ⟨he, a2, c2, L2, h2, k2, f2⟩
theorem RSo.to {w w' : World} {rb : Nat} {ao : Option Addr} {L : List RF} {r : DA × Int} (h : RSo w rb ao L r w') : RTo w rb ao L r (.returned (.int .i64 r.2)) w' := by
  obtain ⟨a2, c2, L2, h2, k2, f2⟩ := h
  exact ⟨a2, c2, L2, rfl, h2, k2, f2⟩
theorem RSo.size {w w' : World} {rb : Nat} {ao : Option Addr} {L : List RF} {r : DA × Int} (h : RSo w rb ao L r w') : Kept (fun k => k = rb) w w' := by obtain ⟨_, _, _, _, k, _⟩ := h; exact k

set_option maxRecDepth 100000 in
set_option maxHeartbeats 8000000 in
theorem refTries_any (rb : Nat) (ao : Option Addr) (cp : Nat) (L : List RF) (D : DA) (s : ByteArray) (hs : s.size ≤ 1000) (fa : Option Addr) (fl fc : Nat) (F : List Nat) (hfl : F.length = fl) (hlt : ∀ x ∈ F, x < 256) (hl2 : fl ≤ 100000) (w : World) (h : RK w rb ao cp L D) (hsrc : SlAt w (.slice fa fl fc) (byV F)) (hne : ∀ j, (Value.slice fa fl fc).ownBlock = some j → j ≠ rb) :
    Calls Tryd.prog 78 #[.pointer (some ⟨rb, 0, none⟩), .string s, .slice fa fl fc] w (RTo w rb ao L (triesD D (s ++ nwN) s F)) := by
  have HH := Lib.hid h
  have HFL := Lib.hid (And.intro hfl (And.intro hlt hl2))
  have HAT := Lib.hid hsrc
  have HNB := Lib.hid hne
  have HSZ := Lib.hid (show s.size ≤ maxLen ∧ (s ++ nwN).size ≤ maxLen by
    have : (s ++ nwN).size = s.size + nwN.size := by simp
    have h4 : nwN.size = 4 := rfl
    unfold maxLen
    omega)
  obtain ⟨nx, hnx⟩ : ∃ nx, nx = s ++ nwN := ⟨_, rfl⟩
  have qn : s ++ ({ data := #[46, 110, 101, 119] } : ByteArray) = nx := hnx.symm
  rw [← hnx] at HSZ ⊢
  obtain ⟨R, hR⟩ : ∃ R, R = triesD D nx s F := ⟨_, rfl⟩
  rw [← hR]
  have HRU := Lib.hid hR
  have c2 := h.c.2.2.1
  clear h hfl hlt hsrc hne hnx hR
  cases hdn : D.down with
  | true =>
    rw [hdn] at c2
    obtain ⟨r1, hr1⟩ : ∃ r, r = tidyD D nx := ⟨_, rfl⟩
    have e1 : tidyD D nx = (D, 0) := by unfold tidyD thereD; rw [hdn]; rfl
    have HR1 := Lib.hid hr1
    have HZ1 : Hid (r1.2 = 0) := Lib.hid (by rw [hr1, e1])
    have HD2' := Lib.hid (show RSo w rb ao L r1 w by rw [hr1, e1]; exact RSo.start HH.out)
    obtain ⟨a2, c2', L2, hd2⟩ := HD2'.out
    have HD2 := Lib.hid hd2
    clear hdn hr1 e1 hd2
    go_enter Tryd.func78, Tryd.ntmps78
    have HC2 := Lib.hid (refCreate_any rb a2 c2' L2 r1.1 nx HSZ.out.2 w HD2.out.1)
    obtain ⟨r2, hr2⟩ : ∃ r, r = createD r1.1 nx := ⟨_, rfl⟩
    rw [← hr2] at HC2
    have HR2 := Lib.hid hr2
    clear hr2
    go_wp2_with fail
    refine HC2.out.mono ?_
    intro e w3 ht
    obtain ⟨he, hsf⟩ := RSo.step HD2.out.2.1 HD2.out.2.2 ht
    subst he
    have HSF2 := Lib.hid hsf
    clear ht hsf
    obtain ⟨z2, hz2⟩ : ∃ z : Int, z = r2.2 := ⟨_, rfl⟩
    rw [← hz2]
    by_cases h0 : z2 = 0
    · have HZ2 : Hid (r2.2 = 0) := Lib.hid (by rw [← hz2]; exact h0)
      subst h0
      clear hz2
      obtain ⟨a3, c3, L3, hd3⟩ := HSF2.out
      have HD3 := Lib.hid hd3
      clear hd3
      have HC3 := Lib.hid (refAppend_any rb a3 c3 L3 r2.1 nx fa fl fc F HFL.out.1 HFL.out.2.1 (by have := HFL.out; omega) w3 HD3.out.1 (HAT.out.kept HD3.out.2.1 HNB.out) (fun _ j e x => HNB.out j e x))
      obtain ⟨r3, hr3⟩ : ∃ r, r = appendD r2.1 nx F := ⟨_, rfl⟩
      rw [← hr3] at HC3
      have HR3 := Lib.hid hr3
      clear hr3
      go_wp2_with fail
      refine HC3.out.mono ?_
      intro e w4 ht
      obtain ⟨he, hsf⟩ := RSo.step HD3.out.2.1 HD3.out.2.2 ht
      subst he
      have HSF3 := Lib.hid hsf
      clear ht hsf
      obtain ⟨z3, hz3⟩ : ∃ z : Int, z = r3.2 := ⟨_, rfl⟩
      rw [← hz3]
      by_cases h0 : z3 = 0
      · have HZ3 : Hid (r3.2 = 0) := Lib.hid (by rw [← hz3]; exact h0)
        subst h0
        clear hz3
        obtain ⟨a4, c4, L4, hd4⟩ := HSF3.out
        have HD4 := Lib.hid hd4
        clear hd4
        have HC4 := Lib.hid (refSync_any rb a4 c4 L4 r3.1 nx w4 HD4.out.1)
        obtain ⟨r4, hr4⟩ : ∃ r, r = syncD r3.1 nx := ⟨_, rfl⟩
        rw [← hr4] at HC4
        have HR4 := Lib.hid hr4
        clear hr4
        go_wp2_with fail
        refine HC4.out.mono ?_
        intro e w5 ht
        obtain ⟨he, hsf⟩ := RSo.step HD4.out.2.1 HD4.out.2.2 ht
        subst he
        have HSF4 := Lib.hid hsf
        clear ht hsf
        obtain ⟨z4, hz4⟩ : ∃ z : Int, z = r4.2 := ⟨_, rfl⟩
        rw [← hz4]
        by_cases h0 : z4 = 0
        · have HZ4 : Hid (r4.2 = 0) := Lib.hid (by rw [← hz4]; exact h0)
          subst h0
          clear hz4
          obtain ⟨a5, c5, L5, hd5⟩ := HSF4.out
          have HD5 := Lib.hid hd5
          clear hd5
          have HC5 := Lib.hid (refRename_any rb a5 c5 L5 r4.1 nx s HSZ.out.1 w5 HD5.out.1)
          obtain ⟨r5, hr5⟩ : ∃ r, r = renameD r4.1 nx s := ⟨_, rfl⟩
          rw [← hr5] at HC5
          have HR5 := Lib.hid hr5
          clear hr5
          go_wp2_with fail
          refine HC5.out.mono ?_
          intro e w6 ht
          obtain ⟨he, hsf⟩ := RSo.step HD5.out.2.1 HD5.out.2.2 ht
          subst he
          have HSF5 := Lib.hid hsf
          clear ht hsf
          have HRR : Hid (R = r5) := Lib.hid (by rw [HRU.out]; unfold triesD; rw [← HR1.out]; rw [thenD_eq HZ1.out]; rw [← HR2.out]; rw [thenD_eq HZ2.out]; rw [← HR3.out]; rw [thenD_eq HZ3.out]; rw [← HR4.out]; rw [thenD_eq HZ4.out]; rw [← HR5.out])
          have HF := Lib.hid HSF5.out.to
          rw [← HRR.out] at HF
          obtain ⟨z5, hz5⟩ : ∃ z : Int, z = R.2 := ⟨_, rfl⟩
          rw [← HRR.out]
          rw [← hz5] at HF ⊢
          clear hz5
          go_wp2
          go_ret
          exact HF.out
        · have q0 : (z4 != 0) = true := by simp [bne, beq_eq_false_iff_ne.2 h0]
          have HZ4 : Hid (r4.2 ≠ 0) := Lib.hid (by rw [← hz4]; exact h0)
          have HRR : Hid (R = r4) := Lib.hid (by rw [HRU.out]; unfold triesD; rw [← HR1.out]; rw [thenD_eq HZ1.out]; rw [← HR2.out]; rw [thenD_eq HZ2.out]; rw [← HR3.out]; rw [thenD_eq HZ3.out]; rw [← HR4.out]; rw [thenD_ne HZ4.out])
          have HF := Lib.hid HSF4.out.to
          rw [← HRR.out] at HF
          have hzr : z4 = R.2 := by rw [HRR.out]; exact hz4
          rw [← hzr] at HF
          clear h0 hz4 hzr
          go_wp2
          go_ret
          exact HF.out
      · have q0 : (z3 != 0) = true := by simp [bne, beq_eq_false_iff_ne.2 h0]
        have HZ3 : Hid (r3.2 ≠ 0) := Lib.hid (by rw [← hz3]; exact h0)
        have HRR : Hid (R = r3) := Lib.hid (by rw [HRU.out]; unfold triesD; rw [← HR1.out]; rw [thenD_eq HZ1.out]; rw [← HR2.out]; rw [thenD_eq HZ2.out]; rw [← HR3.out]; rw [thenD_ne HZ3.out])
        have HF := Lib.hid HSF3.out.to
        rw [← HRR.out] at HF
        have hzr : z3 = R.2 := by rw [HRR.out]; exact hz3
        rw [← hzr] at HF
        clear h0 hz3 hzr
        go_wp2
        go_ret
        exact HF.out
    · have q0 : (z2 != 0) = true := by simp [bne, beq_eq_false_iff_ne.2 h0]
      have HZ2 : Hid (r2.2 ≠ 0) := Lib.hid (by rw [← hz2]; exact h0)
      have HRR : Hid (R = r2) := Lib.hid (by rw [HRU.out]; unfold triesD; rw [← HR1.out]; rw [thenD_eq HZ1.out]; rw [← HR2.out]; rw [thenD_ne HZ2.out])
      have HF := Lib.hid HSF2.out.to
      rw [← HRR.out] at HF
      have hzr : z2 = R.2 := by rw [HRR.out]; exact hz2
      rw [← hzr] at HF
      clear h0 hz2 hzr
      go_wp2
      go_ret
      exact HF.out
  | false =>
    rw [hdn] at c2
    have HFD := Lib.hid (refFind_any rb ao cp L D nx w HH.out)
    have HDN := Lib.hid hdn
    clear hdn
    go_enter Tryd.func78, Tryd.ntmps78
    go_wp2_with fail
    refine HFD.out.mono ?_
    rintro e w2 ⟨z, rfl, hz, rfl⟩
    rcases hz.get HH.out with ⟨rfl, hg⟩ | ⟨i, f, rfl, _, _, hg⟩
    · obtain ⟨r1, hr1⟩ : ∃ r, r = tidyD D nx := ⟨_, rfl⟩
      have e1 : tidyD D nx = (D, 0) := by unfold tidyD thereD; rw [HDN.out, hg]; rfl
      have HR1 := Lib.hid hr1
      have HZ1 : Hid (r1.2 = 0) := Lib.hid (by rw [hr1, e1])
      obtain ⟨a2, c2', L2, hd2⟩ := (show RSo w rb ao L r1 w by rw [hr1, e1]; exact RSo.start HH.out)
      have HD2 := Lib.hid hd2
      clear hz hg hr1 e1 hd2
      have HC2 := Lib.hid (refCreate_any rb a2 c2' L2 r1.1 nx HSZ.out.2 w HD2.out.1)
      obtain ⟨r2, hr2⟩ : ∃ r, r = createD r1.1 nx := ⟨_, rfl⟩
      rw [← hr2] at HC2
      have HR2 := Lib.hid hr2
      clear hr2
      go_wp2_with fail
      refine HC2.out.mono ?_
      intro e w3 ht
      obtain ⟨he, hsf⟩ := RSo.step HD2.out.2.1 HD2.out.2.2 ht
      subst he
      have HSF2 := Lib.hid hsf
      clear ht hsf
      obtain ⟨z2, hz2⟩ : ∃ z : Int, z = r2.2 := ⟨_, rfl⟩
      rw [← hz2]
      by_cases h0 : z2 = 0
      · have HZ2 : Hid (r2.2 = 0) := Lib.hid (by rw [← hz2]; exact h0)
        subst h0
        clear hz2
        obtain ⟨a3, c3, L3, hd3⟩ := HSF2.out
        have HD3 := Lib.hid hd3
        clear hd3
        have HC3 := Lib.hid (refAppend_any rb a3 c3 L3 r2.1 nx fa fl fc F HFL.out.1 HFL.out.2.1 (by have := HFL.out; omega) w3 HD3.out.1 (HAT.out.kept HD3.out.2.1 HNB.out) (fun _ j e x => HNB.out j e x))
        obtain ⟨r3, hr3⟩ : ∃ r, r = appendD r2.1 nx F := ⟨_, rfl⟩
        rw [← hr3] at HC3
        have HR3 := Lib.hid hr3
        clear hr3
        go_wp2_with fail
        refine HC3.out.mono ?_
        intro e w4 ht
        obtain ⟨he, hsf⟩ := RSo.step HD3.out.2.1 HD3.out.2.2 ht
        subst he
        have HSF3 := Lib.hid hsf
        clear ht hsf
        obtain ⟨z3, hz3⟩ : ∃ z : Int, z = r3.2 := ⟨_, rfl⟩
        rw [← hz3]
        by_cases h0 : z3 = 0
        · have HZ3 : Hid (r3.2 = 0) := Lib.hid (by rw [← hz3]; exact h0)
          subst h0
          clear hz3
          obtain ⟨a4, c4, L4, hd4⟩ := HSF3.out
          have HD4 := Lib.hid hd4
          clear hd4
          have HC4 := Lib.hid (refSync_any rb a4 c4 L4 r3.1 nx w4 HD4.out.1)
          obtain ⟨r4, hr4⟩ : ∃ r, r = syncD r3.1 nx := ⟨_, rfl⟩
          rw [← hr4] at HC4
          have HR4 := Lib.hid hr4
          clear hr4
          go_wp2_with fail
          refine HC4.out.mono ?_
          intro e w5 ht
          obtain ⟨he, hsf⟩ := RSo.step HD4.out.2.1 HD4.out.2.2 ht
          subst he
          have HSF4 := Lib.hid hsf
          clear ht hsf
          obtain ⟨z4, hz4⟩ : ∃ z : Int, z = r4.2 := ⟨_, rfl⟩
          rw [← hz4]
          by_cases h0 : z4 = 0
          · have HZ4 : Hid (r4.2 = 0) := Lib.hid (by rw [← hz4]; exact h0)
            subst h0
            clear hz4
            obtain ⟨a5, c5, L5, hd5⟩ := HSF4.out
            have HD5 := Lib.hid hd5
            clear hd5
            have HC5 := Lib.hid (refRename_any rb a5 c5 L5 r4.1 nx s HSZ.out.1 w5 HD5.out.1)
            obtain ⟨r5, hr5⟩ : ∃ r, r = renameD r4.1 nx s := ⟨_, rfl⟩
            rw [← hr5] at HC5
            have HR5 := Lib.hid hr5
            clear hr5
            go_wp2_with fail
            refine HC5.out.mono ?_
            intro e w6 ht
            obtain ⟨he, hsf⟩ := RSo.step HD5.out.2.1 HD5.out.2.2 ht
            subst he
            have HSF5 := Lib.hid hsf
            clear ht hsf
            have HRR : Hid (R = r5) := Lib.hid (by rw [HRU.out]; unfold triesD; rw [← HR1.out]; rw [thenD_eq HZ1.out]; rw [← HR2.out]; rw [thenD_eq HZ2.out]; rw [← HR3.out]; rw [thenD_eq HZ3.out]; rw [← HR4.out]; rw [thenD_eq HZ4.out]; rw [← HR5.out])
            have HF := Lib.hid HSF5.out.to
            rw [← HRR.out] at HF
            obtain ⟨z5, hz5⟩ : ∃ z : Int, z = R.2 := ⟨_, rfl⟩
            rw [← HRR.out]
            rw [← hz5] at HF ⊢
            clear hz5
            go_wp2
            go_ret
            exact HF.out
          · have q0 : (z4 != 0) = true := by simp [bne, beq_eq_false_iff_ne.2 h0]
            have HZ4 : Hid (r4.2 ≠ 0) := Lib.hid (by rw [← hz4]; exact h0)
            have HRR : Hid (R = r4) := Lib.hid (by rw [HRU.out]; unfold triesD; rw [← HR1.out]; rw [thenD_eq HZ1.out]; rw [← HR2.out]; rw [thenD_eq HZ2.out]; rw [← HR3.out]; rw [thenD_eq HZ3.out]; rw [← HR4.out]; rw [thenD_ne HZ4.out])
            have HF := Lib.hid HSF4.out.to
            rw [← HRR.out] at HF
            have hzr : z4 = R.2 := by rw [HRR.out]; exact hz4
            rw [← hzr] at HF
            clear h0 hz4 hzr
            go_wp2
            go_ret
            exact HF.out
        · have q0 : (z3 != 0) = true := by simp [bne, beq_eq_false_iff_ne.2 h0]
          have HZ3 : Hid (r3.2 ≠ 0) := Lib.hid (by rw [← hz3]; exact h0)
          have HRR : Hid (R = r3) := Lib.hid (by rw [HRU.out]; unfold triesD; rw [← HR1.out]; rw [thenD_eq HZ1.out]; rw [← HR2.out]; rw [thenD_eq HZ2.out]; rw [← HR3.out]; rw [thenD_ne HZ3.out])
          have HF := Lib.hid HSF3.out.to
          rw [← HRR.out] at HF
          have hzr : z3 = R.2 := by rw [HRR.out]; exact hz3
          rw [← hzr] at HF
          clear h0 hz3 hzr
          go_wp2
          go_ret
          exact HF.out
      · have q0 : (z2 != 0) = true := by simp [bne, beq_eq_false_iff_ne.2 h0]
        have HZ2 : Hid (r2.2 ≠ 0) := Lib.hid (by rw [← hz2]; exact h0)
        have HRR : Hid (R = r2) := Lib.hid (by rw [HRU.out]; unfold triesD; rw [← HR1.out]; rw [thenD_eq HZ1.out]; rw [← HR2.out]; rw [thenD_ne HZ2.out])
        have HF := Lib.hid HSF2.out.to
        rw [← HRR.out] at HF
        have hzr : z2 = R.2 := by rw [HRR.out]; exact hz2
        rw [← hzr] at HF
        clear h0 hz2 hzr
        go_wp2
        go_ret
        exact HF.out
    · obtain ⟨r1, hr1⟩ : ∃ r, r = tidyD D nx := ⟨_, rfl⟩
      have e1 : tidyD D nx = removeD D nx := by unfold tidyD thereD; rw [HDN.out, hg]; rfl
      have HR1 := Lib.hid hr1
      have HC1 := Lib.hid (refRemove_any rb ao cp L D nx w HH.out)
      rw [← e1, ← hr1] at HC1
      have hi0 : (0 : Int) ≤ (i : Int) := by omega
      clear hz hg hr1 e1
      go_wp2_with fail
      refine HC1.out.mono ?_
      intro e w2 ht
      obtain ⟨he, hsf⟩ := RSo.step (Kept.refl _ _) (RFoot.refl _ _ _ _) ht
      subst he
      have HSF1 := Lib.hid hsf
      clear ht hsf
      obtain ⟨z1, hz1⟩ : ∃ z : Int, z = r1.2 := ⟨_, rfl⟩
      rw [← hz1]
      by_cases h0 : z1 = 0
      · have HZ1 : Hid (r1.2 = 0) := Lib.hid (by rw [← hz1]; exact h0)
        subst h0
        clear hz1
        obtain ⟨a2, c2', L2, hd2⟩ := HSF1.out
        have HD2 := Lib.hid hd2
        clear hd2
        have HC2 := Lib.hid (refCreate_any rb a2 c2' L2 r1.1 nx HSZ.out.2 w2 HD2.out.1)
        obtain ⟨r2, hr2⟩ : ∃ r, r = createD r1.1 nx := ⟨_, rfl⟩
        rw [← hr2] at HC2
        have HR2 := Lib.hid hr2
        clear hr2
        go_wp2_with fail
        refine HC2.out.mono ?_
        intro e w3 ht
        obtain ⟨he, hsf⟩ := RSo.step HD2.out.2.1 HD2.out.2.2 ht
        subst he
        have HSF2 := Lib.hid hsf
        clear ht hsf
        obtain ⟨z2, hz2⟩ : ∃ z : Int, z = r2.2 := ⟨_, rfl⟩
        rw [← hz2]
        by_cases h0 : z2 = 0
        · have HZ2 : Hid (r2.2 = 0) := Lib.hid (by rw [← hz2]; exact h0)
          subst h0
          clear hz2
          obtain ⟨a3, c3, L3, hd3⟩ := HSF2.out
          have HD3 := Lib.hid hd3
          clear hd3
          have HC3 := Lib.hid (refAppend_any rb a3 c3 L3 r2.1 nx fa fl fc F HFL.out.1 HFL.out.2.1 (by have := HFL.out; omega) w3 HD3.out.1 (HAT.out.kept HD3.out.2.1 HNB.out) (fun _ j e x => HNB.out j e x))
          obtain ⟨r3, hr3⟩ : ∃ r, r = appendD r2.1 nx F := ⟨_, rfl⟩
          rw [← hr3] at HC3
          have HR3 := Lib.hid hr3
          clear hr3
          go_wp2_with fail
          refine HC3.out.mono ?_
          intro e w4 ht
          obtain ⟨he, hsf⟩ := RSo.step HD3.out.2.1 HD3.out.2.2 ht
          subst he
          have HSF3 := Lib.hid hsf
          clear ht hsf
          obtain ⟨z3, hz3⟩ : ∃ z : Int, z = r3.2 := ⟨_, rfl⟩
          rw [← hz3]
          by_cases h0 : z3 = 0
          · have HZ3 : Hid (r3.2 = 0) := Lib.hid (by rw [← hz3]; exact h0)
            subst h0
            clear hz3
            obtain ⟨a4, c4, L4, hd4⟩ := HSF3.out
            have HD4 := Lib.hid hd4
            clear hd4
            have HC4 := Lib.hid (refSync_any rb a4 c4 L4 r3.1 nx w4 HD4.out.1)
            obtain ⟨r4, hr4⟩ : ∃ r, r = syncD r3.1 nx := ⟨_, rfl⟩
            rw [← hr4] at HC4
            have HR4 := Lib.hid hr4
            clear hr4
            go_wp2_with fail
            refine HC4.out.mono ?_
            intro e w5 ht
            obtain ⟨he, hsf⟩ := RSo.step HD4.out.2.1 HD4.out.2.2 ht
            subst he
            have HSF4 := Lib.hid hsf
            clear ht hsf
            obtain ⟨z4, hz4⟩ : ∃ z : Int, z = r4.2 := ⟨_, rfl⟩
            rw [← hz4]
            by_cases h0 : z4 = 0
            · have HZ4 : Hid (r4.2 = 0) := Lib.hid (by rw [← hz4]; exact h0)
              subst h0
              clear hz4
              obtain ⟨a5, c5, L5, hd5⟩ := HSF4.out
              have HD5 := Lib.hid hd5
              clear hd5
              have HC5 := Lib.hid (refRename_any rb a5 c5 L5 r4.1 nx s HSZ.out.1 w5 HD5.out.1)
              obtain ⟨r5, hr5⟩ : ∃ r, r = renameD r4.1 nx s := ⟨_, rfl⟩
              rw [← hr5] at HC5
              have HR5 := Lib.hid hr5
              clear hr5
              go_wp2_with fail
              refine HC5.out.mono ?_
              intro e w6 ht
              obtain ⟨he, hsf⟩ := RSo.step HD5.out.2.1 HD5.out.2.2 ht
              subst he
              have HSF5 := Lib.hid hsf
              clear ht hsf
              have HRR : Hid (R = r5) := Lib.hid (by rw [HRU.out]; unfold triesD; rw [← HR1.out]; rw [thenD_eq HZ1.out]; rw [← HR2.out]; rw [thenD_eq HZ2.out]; rw [← HR3.out]; rw [thenD_eq HZ3.out]; rw [← HR4.out]; rw [thenD_eq HZ4.out]; rw [← HR5.out])
              have HF := Lib.hid HSF5.out.to
              rw [← HRR.out] at HF
              obtain ⟨z5, hz5⟩ : ∃ z : Int, z = R.2 := ⟨_, rfl⟩
              rw [← HRR.out]
              rw [← hz5] at HF ⊢
              clear hz5
              go_wp2
              go_ret
              exact HF.out
            · have q0 : (z4 != 0) = true := by simp [bne, beq_eq_false_iff_ne.2 h0]
              have HZ4 : Hid (r4.2 ≠ 0) := Lib.hid (by rw [← hz4]; exact h0)
              have HRR : Hid (R = r4) := Lib.hid (by rw [HRU.out]; unfold triesD; rw [← HR1.out]; rw [thenD_eq HZ1.out]; rw [← HR2.out]; rw [thenD_eq HZ2.out]; rw [← HR3.out]; rw [thenD_eq HZ3.out]; rw [← HR4.out]; rw [thenD_ne HZ4.out])
              have HF := Lib.hid HSF4.out.to
              rw [← HRR.out] at HF
              have hzr : z4 = R.2 := by rw [HRR.out]; exact hz4
              rw [← hzr] at HF
              clear h0 hz4 hzr
              go_wp2
              go_ret
              exact HF.out
          · have q0 : (z3 != 0) = true := by simp [bne, beq_eq_false_iff_ne.2 h0]
            have HZ3 : Hid (r3.2 ≠ 0) := Lib.hid (by rw [← hz3]; exact h0)
            have HRR : Hid (R = r3) := Lib.hid (by rw [HRU.out]; unfold triesD; rw [← HR1.out]; rw [thenD_eq HZ1.out]; rw [← HR2.out]; rw [thenD_eq HZ2.out]; rw [← HR3.out]; rw [thenD_ne HZ3.out])
            have HF := Lib.hid HSF3.out.to
            rw [← HRR.out] at HF
            have hzr : z3 = R.2 := by rw [HRR.out]; exact hz3
            rw [← hzr] at HF
            clear h0 hz3 hzr
            go_wp2
            go_ret
            exact HF.out
        · have q0 : (z2 != 0) = true := by simp [bne, beq_eq_false_iff_ne.2 h0]
          have HZ2 : Hid (r2.2 ≠ 0) := Lib.hid (by rw [← hz2]; exact h0)
          have HRR : Hid (R = r2) := Lib.hid (by rw [HRU.out]; unfold triesD; rw [← HR1.out]; rw [thenD_eq HZ1.out]; rw [← HR2.out]; rw [thenD_ne HZ2.out])
          have HF := Lib.hid HSF2.out.to
          rw [← HRR.out] at HF
          have hzr : z2 = R.2 := by rw [HRR.out]; exact hz2
          rw [← hzr] at HF
          clear h0 hz2 hzr
          go_wp2
          go_ret
          exact HF.out
      · have q0 : (z1 != 0) = true := by simp [bne, beq_eq_false_iff_ne.2 h0]
        have HZ1 : Hid (r1.2 ≠ 0) := Lib.hid (by rw [← hz1]; exact h0)
        have HRR : Hid (R = r1) := Lib.hid (by rw [HRU.out]; unfold triesD; rw [← HR1.out]; rw [thenD_ne HZ1.out])
        have HF := Lib.hid HSF1.out.to
        rw [← HRR.out] at HF
        have hzr : z1 = R.2 := by rw [HRR.out]; exact hz1
        rw [← hzr] at HF
        clear h0 hz1 hzr
        go_wp2
        go_ret
        exact HF.out
end Go.Proofs.YtficodklidaheaaDoor
/- Layer 20: the document's Save. -/
namespace Go.Proofs.YtficodklidaheaaDoor
open Go.RowKit
attribute [local go_sem ↓] Go.wp_at_zero Go.wp_at_succ

set_option maxRecDepth 100000 in
set_option maxHeartbeats 8000000 in
theorem refSave_any (rb : Nat) (ao : Option Addr) (cp : Nat) (L : List RF) (D : DA) (s : ByteArray) (hs : s.size ≤ 1000) (pa : Option Addr) (pn pc : Nat) (l : List Nat) (hpn : l.length = pn) (hl : l.length ≤ 65536) (w : World) (h : RK w rb ao cp L D) (HB : Row8 w (.slice pa pn pc) l) :
    Calls Tryd.prog 40 #[.pointer (some ⟨rb, 0, none⟩), .string s, .slice pa pn pc] w (RTo w rb ao L (saveD D s l)) := by
  have HH := Lib.hid h
  by_cases h1 : 28 < s.size
  · have q1 : (28 : Int) < (s.size : Int) := by omega
    have HX : Hid (saveD D s l = (D, 3)) := Lib.hid (by unfold saveD; rw [if_pos h1])
    rw [HX.out]
    clear h HB h1 hpn
    go_enter Tryd.func40, Tryd.ntmps40
    go_wp2
    go_ret
    exact (RSo.start HH.out).to
  have q1 : ¬ (28 : Int) < (s.size : Int) := by omega
  have HW := Lib.hid (refWrap_any pa pc l hl w (by rw [hpn]; exact HB))
  rw [hpn] at HW
  obtain ⟨nx, hnx⟩ : ∃ nx, nx = s ++ nwN := ⟨_, rfl⟩
  have qn : s ++ ({ data := #[46, 110, 101, 119] } : ByteArray) = nx := hnx.symm
  have HT := Lib.hid (fun (fa : Option Addr) (fl fc : Nat) (hfl : (frameL l).length = fl) (w' : World) (k : Kept (fun _ => False) w w') (hr : Row8 w' (.slice fa fl fc) (frameL l)) (hne : ∀ j, (Value.slice fa fl fc).ownBlock = some j → j ≠ rb) =>
    refTries_any rb ao cp L D s hs fa fl fc (frameL l) hfl (frameL_lt l HB.lt) (by rw [← hfl, frameL_len]; omega) w' (h.kept k (fun _ _ x => x)) (by
      have h2 := hr
      obtain ⟨a2, c2, e, hb, hc⟩ := h2
      injection e with e1 e2 e3
      subst e1 e3
      refine ⟨fa, fc, by rw [byV_length, hfl], fun e => ?_, fun a ha j u hu => ?_⟩
      · obtain ⟨a, ha, _⟩ := hc 0 (by rw [frameL_len]; omega); rw [e] at ha; cases ha
      · have hj : j < (frameL l).length := by have := (List.getElem?_eq_some_iff.1 hu).1; rwa [byV_length] at this
        obtain ⟨a2, ha2, h1⟩ := hc j hj
        rw [ha] at ha2
        injection ha2 with ha2
        subst ha2
        rw [byV_get hj] at hu
        rw [h1, hu]) hne)
  rw [← hnx] at HT
  obtain ⟨r, hr⟩ : ∃ r, r = triesD D nx s (frameL l) := ⟨_, rfl⟩
  have HUP : Hid (UpErr r) := Lib.hid (by rw [hr]; exact triesD_up D nx s (frameL l))
  rw [← hr] at HT
  obtain ⟨R, hR⟩ : ∃ R, R = undoD r nx := ⟨_, rfl⟩
  have HX : saveD D s l = R := by unfold saveD; rw [if_neg h1, if_neg (by omega), hR, hr, hnx]
  rw [HX]
  have HRU := Lib.hid hR
  have HFN := Lib.hid (frameL_len l)
  obtain ⟨fl, hfl⟩ : ∃ fl, fl = 9 + l.length := ⟨_, rfl⟩
  have HFL := Lib.hid hfl
  clear h HB hpn h1 hnx hr hR HX hl hfl
  go_enter Tryd.func40, Tryd.ntmps40
  go_wp2_with fail
  refine HW.out.mono ?_
  rintro e w1 ⟨c, g, rfl, hrow, k1⟩
  have hg : g ≠ rb := fun e => by
    have h2 := hrow
    obtain ⟨a2, c2, e2, hb, hc⟩ := h2
    injection e2 with e3 e4 e5
    obtain ⟨a, ha, hcell⟩ := hc 0 (by rw [frameL_len]; omega)
    rw [← e3] at ha
    injection ha with ha
    rw [← ha, addr_add0, e] at hcell
    exact ((HH.out.kept k1 (fun _ _ x => x)).box_no 0).2 _ hcell
  have HTT := Lib.hid (HT.out (some ⟨g, 0, none⟩) (9 + l.length) c HFN.out w1 k1 hrow (fun j e => by injection e with e; rw [← e]; exact hg))
  have HK1 := Lib.hid k1
  rw [← HFL.out] at HTT ⊢
  clear hrow k1 hg
  go_wp2_with fail
  refine HTT.out.mono ?_
  intro e w2 ht
  obtain ⟨he, hsf⟩ := RSo.step (w := w1) (Kept.refl _ _) (RFoot.refl _ _ _ _) ht
  subst he
  have HSF : Hid (RSo w rb ao L r w2) := Lib.hid (by
    obtain ⟨a2, c2, L2, h2, k2, f2⟩ := hsf
    exact ⟨a2, c2, L2, h2, (HK1.out.mono (fun _ _ x => x.elim)).trans k2, fun j x => (f2 j x).imp id (Nat.le_trans HK1.out.size)⟩)
  clear ht hsf
  obtain ⟨z, hz⟩ : ∃ z : Int, z = r.2 := ⟨_, rfl⟩
  rw [← hz]
  have HZ := Lib.hid hz
  clear hz
  by_cases h0 : z = 0
  · have HRR : Hid (R = r) := Lib.hid (by rw [HRU.out]; unfold undoD; rw [if_pos (.inl (by rw [← HZ.out]; exact h0))])
    have HF := Lib.hid HSF.out.to
    rw [← HZ.out, ← HRR.out] at HF
    subst h0
    go_wp2
    go_ret
    exact HF.out
  by_cases h13 : z = 13
  · have HRR : Hid (R = r) := Lib.hid (by rw [HRU.out]; unfold undoD; rw [if_pos (.inr (by rw [← HZ.out]; exact h13))])
    have HF := Lib.hid HSF.out.to
    rw [← HZ.out, ← HRR.out] at HF
    subst h13
    go_wp2
    go_ret
    exact HF.out
  have q0 : (z != 0) = true := by simp [bne, beq_eq_false_iff_ne.2 h0]
  have q13 : (z != 13) = true := by simp [bne, beq_eq_false_iff_ne.2 h13]
  have HRR : Hid (R = ((tidyD r.1 nx).1, r.2)) := Lib.hid (by rw [HRU.out]; unfold undoD; rw [if_neg (fun e => by rw [← HZ.out] at e; exact e.elim h0 h13)])
  have HDN : Hid (r.1.down = false) := Lib.hid (HUP.out (by rw [← HZ.out]; exact h0) (by rw [← HZ.out]; exact h13))
  obtain ⟨a2, c2, L2, hd2⟩ := HSF.out
  have HD2 := Lib.hid hd2
  have HFD := Lib.hid (refFind_any rb a2 c2 L2 r.1 nx w2 hd2.1)
  clear h0 h13 hd2
  go_wp2_with fail
  refine HFD.out.mono ?_
  rintro e w3 ⟨y, rfl, hy, rfl⟩
  rcases hy.get HD2.out.1 with ⟨rfl, hg⟩ | ⟨i, f, rfl, _, _, hg⟩
  · have e1 : tidyD r.1 nx = (r.1, 0) := by unfold tidyD thereD; rw [HDN.out, hg]; rfl
    have HF : Hid (RTo w rb ao L R (.returned (.int .i64 z)) w2) := Lib.hid (by
      rw [HRR.out, e1]
      exact ⟨a2, c2, L2, by rw [HZ.out], HD2.out⟩)
    clear hy hg e1
    go_wp2
    go_ret
    exact HF.out
  · have e1 : tidyD r.1 nx = removeD r.1 nx := by unfold tidyD thereD; rw [HDN.out, hg]; rfl
    have HC1 := Lib.hid (refRemove_any rb a2 c2 L2 r.1 nx w2 HD2.out.1)
    rw [← e1] at HC1
    have hi0 : (0 : Int) ≤ (i : Int) := by omega
    clear hy hg e1
    go_wp2_with fail
    refine HC1.out.mono ?_
    intro e w4 ht
    obtain ⟨he, hsf⟩ := RSo.step HD2.out.2.1 HD2.out.2.2 ht
    subst he
    have HF : Hid (RTo w rb ao L R (.returned (.int .i64 z)) w4) := Lib.hid (by
      rw [HRR.out]
      obtain ⟨a3, c3, L3, h3, k3, f3⟩ := hsf
      exact ⟨a3, c3, L3, by rw [HZ.out], h3, k3, f3⟩)
    clear ht hsf
    go_wp2
    go_ret
    exact HF.out
end Go.Proofs.YtficodklidaheaaDoor
