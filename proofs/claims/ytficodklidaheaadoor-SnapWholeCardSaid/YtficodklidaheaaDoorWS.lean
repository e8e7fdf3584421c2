/- Layer 20: Load. -/
import Derived.Test.YtficodklidaheaaDoorWR
import Derived.Test.YtficodklidaheaaDoorS6
namespace Go.Proofs.YtficodklidaheaaDoor
open Go.RowKit
attribute [local go_sem ↓] Go.wp_at_zero Go.wp_at_succ

theorem tidy_down {D : DA} {s : ByteArray} (hd : D.down = false) (h : (tidyD D s).2 = 0) : (tidyD D s).1.down = false := by
  unfold tidyD at h ⊢
  split
  · rename_i ht
    rw [if_pos ht] at h
    unfold removeD behindD at h ⊢
    by_cases hb : (beginD D).2 = 0
    · rw [if_pos hb] at h ⊢
      have := (beginD_up D).2 hb
      unfold withF at h ⊢
      cases hg : getM (beginD D).1.L s with
      | none => rw [hg] at h; cases h
      | some f => exact this
    · rw [if_neg hb] at h
      exact absurd h hb
  · exact hd
/-- What Load answers and leaves. -/
def LoadTo (base : Nat) (w : World) (db mb : Nat) (L : List (ByteArray × Fi)) (r : DA × List Nat × Bool × Int) (e : Ending) (w' : World) : Prop :=
  ∃ L' a c, e = .returned (.tuple #[.slice a r.2.1.length c, .bool r.2.2.1, .int .i64 r.2.2.2]) ∧ DK base w' db mb L' r.1 ∧ Kept (foot db mb L) w w' ∧ Foot w db mb L L' ∧ Row8 w' (.slice a r.2.1.length c) r.2.1 ∧ ∀ x, a = some x → w.heap.size ≤ x.block ∧ x.block < w'.heap.size ∧ ¬ foot db mb L' x.block
theorem LoadTo.none {base : Nat} {w w' : World} {db mb : Nat} {L L' : List (ByteArray × Fi)} {D' : DA} {b : Bool} {z : Int} (h : DK base w' db mb L' D') (k : Kept (foot db mb L) w w') (f : Foot w db mb L L') : LoadTo base w db mb L (D', [], b, z) (.returned (.tuple #[.slice none 0 0, .bool b, .int .i64 z])) w' :=
  ⟨L', Option.none, 0, rfl, h, k, f, row8_none w', fun x e => by cases e⟩
set_option maxRecDepth 100000 in
set_option maxHeartbeats 8000000 in
theorem sLoad_any (base db mb : Nat) (hb0 : 0 < base) (L : List (ByteArray × Fi)) (D : DA) (s : ByteArray) (hs : s.size ≤ 1000) (w : World) (h : DK base w db mb L D) (HN : Nibs w) :
    Calls Tryd.prog 41 #[.pointer (some ⟨db, 0, none⟩), .string s] w (LoadTo base w db mb L (loadD D s)) := by
  have HH := Lib.hid h
  have HNI := Lib.hid (And.intro HN hb0)
  have HSZ := Lib.hid (show s.size ≤ maxLen ∧ (s ++ nwN).size ≤ maxLen by
    have : (s ++ nwN).size = s.size + nwN.size := by simp
    have h4 : nwN.size = 4 := rfl
    unfold maxLen
    omega)
  have HDW := Lib.hid (dDown_any base db mb L D w h)
  obtain ⟨R, hR⟩ : ∃ R, R = loadD D s := ⟨_, rfl⟩
  rw [← hR]
  have HR := Lib.hid hR
  clear h HN hR
  cases hdn : D.down with
  | true =>
    have HX : Hid (R = (D, [], false, 13)) := Lib.hid (by rw [HR.out]; unfold loadD; rw [if_pos hdn])
    have HF : Hid (LoadTo base w db mb L R (.returned (.tuple #[.slice none 0 0, .bool false, .int .i64 13])) w) := Lib.hid (by rw [HX.out]; exact LoadTo.none HH.out (Kept.refl _ _) (Foot.refl _ _ _ _))
    rw [hdn] at HDW
    clear hdn
    go_enter Tryd.func41, Tryd.ntmps41
    go_wp2_with fail
    refine HDW.out.mono ?_
    rintro e w1 ⟨rfl, rfl⟩
    go_wp2
    go_ret3
    exact HF.out
  | false =>
    rw [hdn] at HDW
    have HDN := Lib.hid hdn
    obtain ⟨nx, hnx⟩ : ∃ nx, nx = s ++ nwN := ⟨_, rfl⟩
    have qn : s ++ ({ data := #[46, 110, 101, 119] } : ByteArray) = nx := hnx.symm
    rw [← hnx] at HSZ
    have HT := Lib.hid (sTidy_any base db mb L D nx HSZ.out.2 w HH.out)
    obtain ⟨r, hr⟩ : ∃ r, r = tidyD D nx := ⟨_, rfl⟩
    rw [← hr] at HT
    have HX : Hid (R = if r.2 = 0 then (r.1, loadF (getM r.1.L s)) else (r.1, [], false, r.2)) := Lib.hid (by rw [HR.out, hr, hnx]; unfold loadD; rw [if_neg (by rw [hdn]; exact Bool.false_ne_true)])
    have HD1 : Hid (r.2 = 0 → r.1.down = false) := Lib.hid (fun e => by rw [hr] at e ⊢; exact tidy_down hdn e)
    clear hdn hnx hr
    go_enter Tryd.func41, Tryd.ntmps41
    go_wp2_with fail
    refine HDW.out.mono ?_
    rintro e w1 ⟨rfl, rfl⟩
    go_wp2_with fail
    refine HT.out.mono ?_
    rintro e w2 ⟨L2, rfl, h2, k2, f2⟩
    have H2 := Lib.hid (And.intro h2 (And.intro k2 f2))
    obtain ⟨z, hz⟩ : ∃ z : Int, z = r.2 := ⟨_, rfl⟩
    rw [← hz] at HX HD1 ⊢
    clear h2 k2 f2 hz
    by_cases h0 : z = 0
    · subst h0
      have HX0 : Hid (R = (r.1, loadF (getM r.1.L s))) := Lib.hid (by rw [HX.out, if_pos rfl])
      have hd1 := HD1.out rfl
      have HRD := Lib.hid (dRead_any base db mb L2 r.1 s HSZ.out.1 w2 H2.out.1)
      cases hg : getM r.1.L s with
      | none =>
        rw [show readA r.1 s = ([], 7) by unfold readA; rw [hd1, hg]; rfl] at HRD
        have HF : Hid (∀ w', Kept (fun _ => False) w2 w' → LoadTo base w db mb L R (.returned (.tuple #[.slice none 0 0, .bool false, .int .i64 0])) w') := Lib.hid (fun w' k => by
          rw [HX0.out, hg]
          exact LoadTo.none (H2.out.1.kept k (fun _ _ x => x)) (H2.out.2.1.trans (k.mono (fun _ _ x => x.elim))) H2.out.2.2)
        clear hg hd1
        go_wp2_with fail
        refine HRD.out.mono ?_
        rintro e w3 ⟨a, c, rfl, hmi⟩
        have HK3 := Lib.hid hmi.kept
        clear hmi
        dsimp only [List.length_nil]
        go_wp2
        go_ret3
        exact HF.out _ HK3.out
      | some f =>
        rw [show readA r.1 s = (f.b, 0) by unfold readA; rw [hd1, hg]; rfl] at HRD
        have hfb : ∀ x ∈ f.b, x < 256 := H2.out.1.ok.byte (s, f) (getM_mem hg)
        have hfl : f.b.length ≤ 1000000000 := by
          have h1 := usedL_del H2.out.1.ok.asc.pair s
          rw [hg] at h1
          have h2 := H2.out.1.ok.used
          have h3 := H2.out.1.ok.capR
          have h4 : szM (some f) = f.b.length := rfl
          omega
        have HFB := Lib.hid (And.intro hfb hfl)
        have HX1 : Hid (R = (r.1, if firstE f.b = 0 ∧ 9 + sizeL f.b = f.b.length then (payL f.b, true, 0) else ([], false, 15))) := Lib.hid (by rw [HX0.out, hg]; rfl)
        have HAL := Lib.hid (fun j (x : foot db mb L2 j) => (H2.out.1.lt x).1)
        obtain ⟨m, hm⟩ : ∃ m, m = f.b.length := ⟨_, rfl⟩
        have HM := Lib.hid hm
        clear hg hd1 hfb hfl
        go_wp2_with fail
        refine HRD.out.mono ?_
        rintro e w3 ⟨a, c, rfl, hmi⟩
        have hcap := own_capB hmi.own
        have HFI := Lib.hid (first_any a c f.b HFB.out.2 hcap w3 (slAt_row8 hmi.at_ HFB.out.1) ((HNI.out.1.keptS H2.out.2.1 (HH.out.no0 HNI.out.2)).kept hmi.kept))
        have HK3 := Lib.hid hmi.kept
        dsimp only
        rw [← hm] at HFI ⊢
        clear hmi hcap hm
        go_wp2_with fail
        refine HFI.out.mono ?_
        rintro e w4 hfi
        have hk4 : Kept (fun _ => False) w3 w4 := by
          unfold Firsted at hfi
          split at hfi
          · obtain ⟨v, _, _, k⟩ := hfi; exact k
          · exact hfi.2
        have HK4 := Lib.hid (HK3.out.trans hk4)
        have HD4 := Lib.hid (And.intro (H2.out.1.kept HK4.out (fun _ _ x => x)) (H2.out.2.1.trans (HK4.out.mono (fun _ _ x => x.elim))))
        have HBAD : Hid (¬ (firstE f.b = 0 ∧ 9 + sizeL f.b = f.b.length) → LoadTo base w db mb L R (.returned (.tuple #[.slice none 0 0, .bool false, .int .i64 15])) w4) := Lib.hid (fun e => by
          rw [HX1.out, if_neg e]
          exact LoadTo.none HD4.out.1 HD4.out.2 H2.out.2.2)
        unfold Firsted at hfi
        by_cases he : firstE f.b = 0
        · rw [if_pos he] at hfi
          obtain ⟨v, rfl, hown, _⟩ := hfi
          obtain ⟨pa, pc, rfl⟩ := ownsRow_slice hown
          have hsz := firstE_size f.b he
          have hpl : (payL f.b).length = sizeL f.b := by unfold payL; rw [List.length_take, List.length_drop]; omega
          have HOW := Lib.hid hown
          have HHE := Lib.hid he
          have HPL := Lib.hid hpl
          obtain ⟨n, hn⟩ : ∃ n, n = 9 + sizeL f.b := ⟨_, rfl⟩
          have HNE := Lib.hid hn
          obtain ⟨q, hq⟩ : ∃ q, q = sizeL f.b := ⟨_, rfl⟩
          have HQE := Lib.hid hq
          rw [← hn, ← hq]
          have hnm : n ≤ m := by rw [hn, HM.out]; exact hsz
          clear hown hk4 hsz hpl he hn hq
          by_cases hlt : n < m
          · have q1 : (n : Int) < (m : Int) := by omega
            have HF := Lib.hid (HBAD.out (fun e => by have := e.2; have := HNE.out; have := HM.out; omega))
            clear hlt hnm
            go_wp2
            go_ret3
            exact HF.out
          · have q1 : ¬ (n : Int) < (m : Int) := by omega
            have HF : Hid (LoadTo base w db mb L R (.returned (.tuple #[.slice pa q pc, .bool true, .int .i64 0])) w4) := Lib.hid (by
              rw [HX1.out, if_pos ⟨HHE.out, by have := HNE.out; have := HM.out; omega⟩]
              have hb8 : ∀ x ∈ payL f.b, x < 256 := fun x hx => HFB.out.1 x (List.mem_of_mem_drop (List.mem_of_mem_take hx))
              have hrow : Row8 w4 (.slice pa (payL f.b).length pc) (payL f.b) := by
                have := HOW.out
                rw [← HPL.out] at this
                exact slAt_row8 (SlAt.ofOwn this) hb8
              rw [HQE.out, ← HPL.out]
              refine ⟨L2, pa, pc, rfl, HD4.out.1, HD4.out.2, H2.out.2.2, hrow, fun x e => ?_⟩
              subst e
              have h9 := ownsRow_lt HOW.out (k := x.block) rfl
              have h8 := H2.out.2.1.size
              have h7 := HK3.out.size
              exact ⟨by omega, h9.1, fun f => by have := HAL.out _ f; omega⟩)
            clear hlt hnm
            go_wp2
            go_ret3
            exact HF.out
        · rw [if_neg he] at hfi
          obtain ⟨rfl, _⟩ := hfi
          have HF := Lib.hid (HBAD.out (fun e => he e.1))
          obtain ⟨n, hn⟩ : ∃ n : Int, n = ((firstE f.b : Nat) : Int) := ⟨_, rfl⟩
          have q1 : (n != 0) = true := by
            have : n ≠ 0 := by rw [hn]; omega
            simp [bne, beq_eq_false_iff_ne.2 this]
          rw [← hn]
          clear hk4 he hn
          go_wp2
          go_ret3
          exact HF.out
    · have q0 : (z != 0) = true := by simp [bne, beq_eq_false_iff_ne.2 h0]
      have HF : Hid (LoadTo base w db mb L R (.returned (.tuple #[.slice none 0 0, .bool false, .int .i64 z])) w2) := Lib.hid (by rw [HX.out, if_neg h0]; exact LoadTo.none H2.out.1 H2.out.2.1 H2.out.2.2)
      clear h0
      go_wp2
      go_ret3
      exact HF.out
end Go.Proofs.YtficodklidaheaaDoor
