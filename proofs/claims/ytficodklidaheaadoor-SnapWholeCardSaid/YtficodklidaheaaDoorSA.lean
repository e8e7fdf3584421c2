/- Layer 18: Rename. -/
import Derived.Test.YtficodklidaheaaDoorS7
namespace Go.Proofs.YtficodklidaheaaDoor
open Go.RowKit
attribute [local go_sem ↓] Go.wp_at_zero Go.wp_at_succ

theorem DK.moved {base : Nat} {w w' : World} {db mb : Nat} {L : List (ByteArray × Fi)} {D D' : DA} (h : DK base w db mb L D) {a c : ByteArray} {f : Fi} (hf : getM L a = some f) (ok : DOk D') (hL : D'.L = putS (delM D.L a) c f.t)
    (hb : BoxAt w' db 111 (boxD mb D')) (hm : MapIs w' mb (setM (delM (mapM Fi.val L) a) c f.val)) (hk : Kept (fun k => k = mb) w w') :
    DK base w' db mb (setM (delM L a) c f) D' ∧ Kept (foot db mb L) w w' ∧ Foot w db mb L (setM (delM L a) c f) := by
  rw [delM_map, setM_map] at hm
  have hfm := getM_mem hf
  have hdp := delM_pair h.pair a
  have hno : ∀ p ∈ L, ∀ j, p.2.v.ownBlock = some j → ¬ j = mb := fun p hp j e => (h.noBox hp e).2
  refine ⟨⟨hb, hm, DK.ofGet (setM_pair hdp c f) ok (fun t => ?_), fun p hp => ?_, fun p hp q hq hne k e => ?_, h.base, ok⟩, hk.mono (fun k _ e => .inr (.inl e)), fun k e => ?_⟩
  · rw [hL, getM_set, getM_put]
    by_cases e : c = t
    · rw [if_pos e, if_pos e]; rfl
    · rw [if_neg e, if_neg e, getM_del, getM_del]
      by_cases e2 : a = t
      · rw [if_pos e2, if_pos e2]; rfl
      · rw [if_neg e2, if_neg e2, h.get]
  · rcases setM_mem' hdp hp with rfl | ⟨hp, _⟩
    · exact (h.data _ hfm).kept hk (fun j e => hno _ hfm j e)
    · exact (h.data _ (delM_mem hp).1).kept hk (fun j e => hno _ (delM_mem hp).1 j e)
  · rcases setM_mem' hdp hp with rfl | ⟨hp, hp'⟩
    · rcases setM_mem' hdp hq with rfl | ⟨hq, hq'⟩
      · exact absurd rfl hne
      · exact h.sep _ hfm q (delM_mem hq).1 (delM_mem hq).2.symm k e
    · rcases setM_mem' hdp hq with rfl | ⟨hq, hq'⟩
      · exact h.sep p (delM_mem hp).1 _ hfm (delM_mem hp).2 k e
      · exact h.sep p (delM_mem hp).1 q (delM_mem hq).1 hne k e
  · rcases e with e | e | ⟨p, hp, e⟩
    · exact .inl (.inl e)
    · exact .inl (.inr (.inl e))
    · rcases setM_mem' hdp hp with rfl | ⟨hp, _⟩
      · exact .inl (.inr (.inr ⟨_, hfm, e⟩))
      · exact .inl (.inr (.inr ⟨p, (delM_mem hp).1, e⟩))
theorem rename_same {D : DA} (h : DOk D) {a : ByteArray} {f : PF} (hf : getM D.L a = some f) : putS (delM D.L a) a f = D.L := by
  refine asc_ext (putS_asc (delM_asc h.asc a) a f) h.asc (fun t => ?_)
  rw [getM_put, getM_del]
  by_cases e : a = t
  · rw [if_pos e, ← e, hf]
  · rw [if_neg e, if_neg e]
theorem rename_two {D : DA} (h : DOk D) (a c : ByteArray) (f : PF) : putS (delM (delM D.L c) a) c f = putS (delM D.L a) c f := by
  refine asc_ext (putS_asc (delM_asc (delM_asc h.asc c) a) c f) (putS_asc (delM_asc h.asc a) c f) (fun t => ?_)
  rw [getM_put, getM_put, getM_del, getM_del, getM_del]
  by_cases e : c = t
  · rw [if_pos e, if_pos e]
  · rw [if_neg e, if_neg e, if_neg e]
theorem rename_used {D : DA} (h : DOk D) {a c : ByteArray} (hac : a ≠ c) {f : PF} (hf : getM D.L a = some f) : usedL (putS (delM D.L a) c f) = usedL (delM D.L c) := by
  have e1 := usedL_put (delM_pair h.asc.pair a) c f
  have e2 := usedL_del h.asc.pair a
  have e3 := usedL_del h.asc.pair c
  rw [getM_del, if_neg hac] at e1
  rw [hf] at e2
  simp only [szM] at e2
  omega
theorem renameD_ne {D : DA} {a c : ByteArray} (h : (beginD D).2 ≠ 0) : renameD D a c = beginD D := behindD_ne h
theorem renameD_zero {D : DA} {a c : ByteArray} (h : (beginD D).2 = 0) : renameD D a c = if nameB c = false then ((beginD D).1, 3) else withF a (fun f D => ({ D with L := putS (delM D.L a) c f }, 0)) (beginD D).1 := behindD_eq h
theorem toList_eqB {a b : ByteArray} (h : a = b) : (a.toList == b.toList) = true := by rw [h]; exact beq_self_eq_true _
set_option maxRecDepth 100000 in
set_option maxHeartbeats 4000000 in
theorem dRename_any (base db mb : Nat) (L : List (ByteArray × Fi)) (D : DA) (x c : ByteArray) (hx : x.size ≤ maxLen) (hc : c.size ≤ maxLen) (w : World) (h : DK base w db mb L D) :
    Calls Tryd.prog 77 #[.pointer (some ⟨db, 0, none⟩), .string x, .string c] w (DTo base w db mb L (renameD D x c)) := by
  have HC := Lib.hid (dchange_any base db mb L D w h)
  have HX := Lib.hid (And.intro (fun e : (beginD D).2 ≠ 0 => renameD_ne (a := x) (c := c) e) (fun e : (beginD D).2 = 0 => renameD_zero (a := x) (c := c) e))
  have HOK := Lib.hid (renameD_ok h.ok x c)
  obtain ⟨r, hr⟩ : ∃ r, r = beginD D := ⟨_, rfl⟩
  rw [← hr] at HC HX
  obtain ⟨D1, z⟩ := r
  have HS := Lib.hid (And.intro hx hc)
  have HN := Lib.hid (fun w => isName_any c w (by unfold maxLen at hc; omega))
  clear hr hx hc h
  by_cases hz : z = 0
  · have q0 : (z != 0) = false := bneF hz
    have HY := Lib.hid (HX.out.2 hz)
    subst hz
    go_enter Tryd.func77, Tryd.ntmps77
    go_wp2_with fail
    refine HC.out.mono ?_
    rintro e w1 ⟨rfl, h1, hk1⟩
    have HD := Lib.hid (And.intro h1 hk1)
    clear h1 hk1
    cases hn : nameB c with
    | false =>
      rw [hn] at HN HY
      clear hn
      go_wp2_with fail
      refine (HN.out _).mono ?_
      rintro e w2 ⟨rfl, rfl⟩
      go_wp2
      go_ret
      rw [HY.out]
      exact BeganTo.to ⟨rfl, HD.out.1, HD.out.2⟩
    | true =>
      rw [hn] at HN HY
      clear hn
      have h1 := HD.out.1
      have c0 := h1.c.1
      have hl := (h1.look HS.out.1).2
      have hg1 := h1.get x
      go_wp2_with fail
      refine (HN.out _).mono ?_
      rintro e w2 ⟨rfl, rfl⟩
      cases hf : getM L x with
      | none =>
        rw [hf] at hg1
        have HE : Hid (renameD D x c = (D1, 7)) := Lib.hid (by
          rw [HY.out, if_neg (by decide)]
          unfold withF
          rw [← hg1]
          rfl)
        rw [lookF_none hf, ← hg1] at hl
        replace hl : (Instr.lookup 109 (.map (some mb)) (.string x) true).run Tryd.prog w1 = .ok (.tuple #[.agg #[.slice none 0 0, .int .i64 0], .bool false]) w1 := hl
        have HA := Lib.hid (h1.kept ((Kept.refl (fun _ => False) w1).alloc (.cells #[.slice none 0 0, .int .i64 0] 114)) (fun _ _ x => x))
        have HK := Lib.hid (HD.out.2.alloc (.cells #[.slice none 0 0, .int .i64 0] 114))
        clear hf hg1 h1
        go_wp2
        go_ret
        rw [HE.out]
        exact BeganTo.to ⟨rfl, HA.out, HK.out⟩
      | some f =>
        rw [hf] at hg1
        obtain ⟨a, cc, b, y⟩ := f
        rw [lookF_some hf, ← hg1] at hl
        have hgx : getM D1.L x = some ⟨b, y⟩ := hg1.symm
        simp only [Option.map_some, Option.isSome_some] at hl
        obtain ⟨n, hn⟩ : ∃ n, n = b.length := ⟨_, rfl⟩
        rw [← hn] at hl
        have HE : Hid (renameD D x c = ({ D1 with L := putS (delM D1.L x) c ⟨b, y⟩ }, 0)) := Lib.hid (by
          rw [HY.out, if_neg (by decide)]
          unfold withF
          rw [hgx])
        obtain ⟨q, hq⟩ : ∃ q, q = w1.heap.size := ⟨_, rfl⟩
        obtain ⟨wa, hwa⟩ : ∃ wa, wa = w1.alloc (.cells #[.slice a n cc, .int .i64 (y : Int)] 114) := ⟨_, rfl⟩
        have ka : Kept (fun _ => False) w1 wa := by rw [hwa]; exact (Kept.refl _ _).alloc _
        have BA : BoxAt wa q 114 #[.slice a n cc, .int .i64 (y : Int)] := by rw [hwa, hq]; exact BoxAt.new w1 _ _
        have ha := h1.kept ka (fun _ _ x => x)
        have hkw : Kept (fun k => k = db) w wa := HD.out.2.trans (ka.mono (fun _ _ x => x.elim))
        have HA := Lib.hid (And.intro ha hkw)
        have HW := Lib.hid (And.intro hwa hq)
        by_cases hxc : x = c
        · have q1 : (x.toList == c.toList) = true := toList_eqB hxc
          have HF : Hid (({ D1 with L := putS (delM D1.L x) c ⟨b, y⟩ } : DA) = D1) := Lib.hid (by
            rw [← hxc, rename_same ha.ok hgx])
          clear hf hg1 h1 hgx ka BA ha hkw hn hwa hq hxc
          go_wp2
          go_ret
          rw [HE.out, HF.out, ← HW.out.1]
          exact BeganTo.to ⟨rfl, HA.out.1, HA.out.2⟩
        · have q1 : (x.toList == c.toList) = false := toList_ne hxc
          have HRM := Lib.hid (dremove_any base db mb L D1 c HS.out.2 wa ha)
          have qlt : ∀ k, foot db mb L k → k ≠ q := fun k e => by have := (h1.lt e).1; omega
          have HF := Lib.hid (And.intro (And.intro hf hgx) (And.intro hxc (And.intro BA qlt)))
          have HN' := Lib.hid hn
          clear hf hg1 h1 hgx ka BA ha hkw hn hwa hq hxc qlt
          go_upto_region 7 with fail
          rw [← HW.out.1, ← HW.out.2]
          go_wp2_with fail
          refine HRM.out.mono ?_
          rintro e w2 ⟨rfl, h2, k2, ft2⟩
          have H2 := Lib.hid (And.intro h2 (And.intro k2 ft2))
          have c20 := h2.c.1
          have BA2 : BoxAt w2 q 114 #[.slice a n cc, .int .i64 (y : Int)] := HF.out.2.2.1.kept k2 (fun e => HF.out.2.2.2 q e rfl)
          obtain ⟨w3, hd3, hm3, hk3⟩ := h2.map.delete Tryd.underlying9 Tryd.underlying109 HS.out.1 0
          have BA3 := BA2.kept hk3 (fun e => by
            have := HF.out.2.2.2 mb (.inr (.inl rfl))
            exact this e.symm)
          have c30 : w3.cell? ⟨db, 0, none⟩ = some (.map (some mb)) := (h2.box.kept hk3 h2.ne).cell rfl
          have q30 : w3.cell? ⟨q, 0, none⟩ = some (.slice a n cc) := BA3.cell rfl
          have q31 : w3.cell? ⟨q, 1, none⟩ = some (.int .i64 (y : Int)) := BA3.cell rfl
          obtain ⟨w4, hu4, hm4, hk4⟩ := (hm3.kept ((Kept.refl (fun _ => False) w3).drew) (fun x => x)).update Tryd.underlying9 Tryd.underlying109 HS.out.2 (⟨a, cc, b, y⟩ : Fi).val (by
            have h5 := h2.ok.count
            have h6 := h2.len
            have h7 := List.length_filter_le (fun p => decide (p.1 ≠ x)) (mapM Fi.val (delM L c))
            unfold delM maxLen
            unfold delM at h6 h7
            unfold mapM at h7 ⊢
            rw [List.length_map] at h7
            simp only at h5 h6
            unfold delM at h5
            omega)
          have HR := Lib.hid (show DK base w4 db mb (setM (delM (delM L c) x) c ⟨a, cc, b, y⟩) { D1 with L := putS (delM D1.L x) c ⟨b, y⟩ } ∧ Kept (foot db mb (delM L c)) w2 w4 ∧ Foot w2 db mb (delM L c) (setM (delM (delM L c) x) c ⟨a, cc, b, y⟩) from by
            refine h2.moved (by rw [getM_del, if_neg (Ne.symm HF.out.2.1)]; exact HF.out.1.1) (by have := HOK.out; rw [HE.out] at this; exact this) ?_ ?_ hm4 ((hk3.drew).trans hk4)
            · exact (rename_two HA.out.1.ok x c ⟨b, y⟩).symm
            · have e := rename_used HA.out.1.ok HF.out.2.1 HF.out.1.2
              have hb := ((h2.box.kept hk3 h2.ne).kept ((Kept.refl (fun _ => False) w3).drew) (fun x => x)).kept hk4 h2.ne
              unfold boxD at hb ⊢
              simp only at hb
              simp only [e]
              exact hb)
          replace hu4 : (Instr.mapUpdate 109 (.map (some mb)) (.string c) (.agg #[.slice a n cc, .int .i64 (y : Int)])).run Tryd.prog w3.drew = .ok () w4 := by
            unfold Fi.val at hu4
            simp only [← HN'.out] at hu4
            exact hu4
          clear h2 k2 ft2 BA2 BA3 hm3 hk3 hm4 hk4
          go_upto_region 12 with fail
          go_region
          go_wp2
          go_ret
          rw [HE.out]
          refine DTo.behind HA.out.2 ⟨_, rfl, HR.out.1, ?_, fun k e => ?_⟩
          · refine H2.out.2.1.trans (HR.out.2.1.step (S' := fun _ => False) (Kept.refl _ _) (fun _ _ x => x.elim) |>.mono (fun k _ e => ?_))
            rcases e with e | e | ⟨p, hp, e⟩
            · exact .inl e
            · exact .inr (.inl e)
            · exact .inr (.inr ⟨p, (delM_mem hp).1, e⟩)
          · rcases HR.out.2.2 k e with e | e
            · exact H2.out.2.2 k e
            · exact .inr (Nat.le_trans H2.out.2.1.size e)
  · have q0 : (z != 0) = true := bneT hz
    have HY := Lib.hid (HX.out.1 hz)
    clear hz
    go_enter Tryd.func77, Tryd.ntmps77
    go_wp2_with fail
    refine HC.out.mono ?_
    rintro e w1 ⟨rfl, h1, hk1⟩
    have HD := Lib.hid (And.intro h1 hk1)
    clear h1 hk1
    go_wp2
    go_ret
    rw [HY.out]
    exact BeganTo.to ⟨rfl, HD.out.1, HD.out.2⟩
end Go.Proofs.YtficodklidaheaaDoor
