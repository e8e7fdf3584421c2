/- Layer 18: what a store into the files leaves; bytes.Clone; Create, Sync, Remove, Size, Read. -/
import Derived.Test.YtficodklidaheaaDoorS4
namespace Go.Proofs.YtficodklidaheaaDoor
open Go.RowKit
attribute [local go_sem ↓] Go.wp_at_zero Go.wp_at_succ

theorem setM_mem' {α : Type} {L : List (ByteArray × α)} (hn : L.Pairwise fun p q => p.1 ≠ q.1) {s : ByteArray} {v : α} {p : ByteArray × α} (h : p ∈ setM L s v) : p = (s, v) ∨ (p ∈ L ∧ p.1 ≠ s) := by
  have h1 := getM_of (setM_pair hn s v) (s := p.1) (v := p.2) h
  rw [getM_set] at h1
  by_cases e : s = p.1
  · rw [if_pos e] at h1
    injection h1 with h1
    exact .inl (Prod.ext e.symm h1.symm)
  · rw [if_neg e] at h1
    exact .inr ⟨getM_mem h1, Ne.symm e⟩
section
variable {base : Nat} {w w' : World} {db mb : Nat} {L : List (ByteArray × Fi)} {D D' : DA}
theorem DK.ofGet (h : L.Pairwise fun p q => p.1 ≠ q.1) (ok : DOk D') (hg : ∀ t, (getM L t).map Fi.t = getM D'.L t) : (mapM Fi.t L).Perm D'.L :=
  perm_of_get (mapM_pair _ h) ok.asc.pair (fun t => by rw [getM_map, hg])
theorem DK.noBox (h : DK base w db mb L D) {p : ByteArray × Fi} (hp : p ∈ L) {k : Nat} (hk : p.2.v.ownBlock = some k) : k ≠ db ∧ k ≠ mb := by
  obtain ⟨cur, h1, _⟩ := (h.data p hp).block hk
  constructor
  · intro x
    have hb := h.box
    unfold BoxAt at hb
    rw [x, hb] at h1
    injection h1 with h1
    injection h1 with _ h1
    exact absurd h1 (by decide)
  · exact h.map.notCells h1
theorem lookF_some {s : ByteArray} {f : Fi} (h : getM L s = some f) : lookF L s = f := by unfold lookF; rw [h]; rfl
theorem lookF_none {s : ByteArray} (h : getM L s = none) : lookF L s = nilFile := by unfold lookF; rw [h]; rfl
/-- The block of what stands at another name. -/
theorem DK.other (h : DK base w db mb L D) {s : ByteArray} {p : ByteArray × Fi} (hp : p ∈ L) (hne : p.1 ≠ s) {k : Nat} (hk : p.2.v.ownBlock = some k) : (lookF L s).v.ownBlock ≠ some k := by
  cases hx : getM L s with
  | none => rw [lookF_none hx]; intro e; cases e
  | some f => rw [lookF_some hx]; exact h.sep p hp (s, f) (getM_mem hx) hne k hk
/-- Which blocks a disk's calls may write. -/
def Foot (w : World) (db mb : Nat) (L L' : List (ByteArray × Fi)) : Prop := ∀ k, foot db mb L' k → foot db mb L k ∨ w.heap.size ≤ k
theorem Foot.refl (w : World) (db mb : Nat) (L : List (ByteArray × Fi)) : Foot w db mb L L := fun _ h => .inl h
theorem DK.put (h : DK base w db mb L D) {s : ByteArray} {f : Fi} (ok : DOk D') (hL : D'.L = putS D.L s f.t) (hb : BoxAt w' db 111 (boxD mb D')) (hm : MapIs w' mb (setM (mapM Fi.val L) s f.val)) (ho : OwnB base w' f)
    (hk : Kept (fun k => k = db ∨ k = mb ∨ (lookF L s).v.ownBlock = some k) w w') (hf : ∀ k, f.v.ownBlock = some k → (lookF L s).v.ownBlock = some k ∨ w.heap.size ≤ k) :
    DK base w' db mb (setM L s f) D' ∧ Kept (foot db mb L) w w' ∧ Foot w db mb L (setM L s f) := by
  rw [setM_map] at hm
  have hlk : ∀ k, (lookF L s).v.ownBlock = some k → ∃ p ∈ L, p.2.v.ownBlock = some k := fun k e => by
    cases hx : getM L s with
    | none => rw [lookF_none hx] at e; cases e
    | some f0 => rw [lookF_some hx] at e; exact ⟨(s, f0), getM_mem hx, e⟩
  have hnew : ∀ p ∈ L, p.1 ≠ s → ∀ k, f.v.ownBlock = some k → p.2.v.ownBlock ≠ some k := fun p hp hne k e x => by
    rcases hf k e with e1 | e1
    · exact h.other hp hne x e1
    · have := (h.lt (.inr (.inr ⟨p, hp, x⟩))).1
      omega
  refine ⟨⟨hb, hm, DK.ofGet (setM_pair h.pair s f) ok (fun t => ?_), fun p hp => ?_, fun p hp q hq hne k e => ?_, h.base, ok⟩, hk.mono (fun k _ e => ?_), fun k e => ?_⟩
  · rw [hL, getM_set, getM_put]
    by_cases e : s = t
    · rw [if_pos e, if_pos e]; rfl
    · rw [if_neg e, if_neg e, h.get]
  · rcases setM_mem' h.pair hp with rfl | ⟨hp, hne⟩
    · exact ho
    · refine (h.data p hp).kept hk (fun j e x => ?_)
      obtain ⟨n1, n2⟩ := h.noBox hp e
      rcases x with x | x | x
      · exact n1 x
      · exact n2 x
      · exact h.other hp hne e x
  · rcases setM_mem' h.pair hp with rfl | ⟨hp, hp'⟩
    · rcases setM_mem' h.pair hq with rfl | ⟨hq, hq'⟩
      · exact absurd rfl hne
      · exact hnew q hq hq' k e
    · rcases setM_mem' h.pair hq with rfl | ⟨hq, hq'⟩
      · exact fun x => hnew p hp hp' k x e
      · exact h.sep p hp q hq hne k e
  · rcases e with e | e | e
    · exact .inl e
    · exact .inr (.inl e)
    · exact .inr (.inr (hlk k e))
  · rcases e with e | e | ⟨p, hp, e⟩
    · exact .inl (.inl e)
    · exact .inl (.inr (.inl e))
    · rcases setM_mem' h.pair hp with rfl | ⟨hp, _⟩
      · rcases hf k e with e1 | e1
        · exact .inl (.inr (.inr (hlk k e1)))
        · exact .inr e1
      · exact .inl (.inr (.inr ⟨p, hp, e⟩))
theorem DK.del (h : DK base w db mb L D) {s : ByteArray} (ok : DOk D') (hL : D'.L = delM D.L s) (hb : BoxAt w' db 111 (boxD mb D')) (hm : MapIs w' mb (delM (mapM Fi.val L) s))
    (hk : Kept (fun k => k = db ∨ k = mb) w w') : DK base w' db mb (delM L s) D' ∧ Kept (foot db mb L) w w' ∧ Foot w db mb L (delM L s) := by
  rw [delM_map] at hm
  refine ⟨⟨hb, hm, DK.ofGet (delM_pair h.pair s) ok (fun t => ?_), fun p hp => ?_, fun p hp q hq hne k e => h.sep p (delM_mem hp).1 q (delM_mem hq).1 hne k e, h.base, ok⟩, hk.mono (fun k _ e => ?_), fun k e => ?_⟩
  · rw [hL, getM_del, getM_del]
    by_cases e : s = t
    · rw [if_pos e, if_pos e]; rfl
    · rw [if_neg e, if_neg e, h.get]
  · have hp' := (delM_mem hp).1
    exact (h.data p hp').kept hk (fun j e x => by
      obtain ⟨n1, n2⟩ := h.noBox hp' e
      rcases x with x | x
      · exact n1 x
      · exact n2 x)
  · rcases e with e | e
    · exact .inl e
    · exact .inr (.inl e)
  · rcases e with e | e | ⟨p, hp, e⟩
    · exact .inl (.inl e)
    · exact .inl (.inr (.inl e))
    · exact .inl (.inr (.inr ⟨p, (delM_mem hp).1, e⟩))
end
/-- What a call on a disk leaves. -/
def DTo (base : Nat) (w : World) (db mb : Nat) (L : List (ByteArray × Fi)) (r : DA × Int) (e : Ending) (w' : World) : Prop := ∃ L', e = .returned (.int .i64 r.2) ∧ DK base w' db mb L' r.1 ∧ Kept (foot db mb L) w w' ∧ Foot w db mb L L'
theorem BeganTo.to {base : Nat} {w : World} {db mb : Nat} {L : List (ByteArray × Fi)} {r : DA × Int} {e : Ending} {w' : World} (h : BeganTo base w db mb L r e w') : DTo base w db mb L r e w' :=
  ⟨L, h.1, h.2.1, h.2.2.mono (fun _ _ e => .inl e), Foot.refl _ _ _ _⟩
theorem DTo.behind {base : Nat} {w w1 : World} {db mb : Nat} {L : List (ByteArray × Fi)} {r : DA × Int} {e : Ending} {w' : World} (k : Kept (fun k => k = db) w w1) (h : DTo base w1 db mb L r e w') : DTo base w db mb L r e w' := by
  obtain ⟨L', h1, h2, h3, h4⟩ := h
  refine ⟨L', h1, h2, (k.mono (fun _ _ e => .inl e)).trans h3, fun j e => ?_⟩
  rcases h4 j e with x | x
  · exact .inl x
  · exact .inr (Nat.le_trans k.size x)
theorem behindD_ne {D : DA} {f : DA → DA × Int} (h : (beginD D).2 ≠ 0) : behindD D f = beginD D := by unfold behindD; rw [if_neg h]
theorem behindD_eq {D : DA} {f : DA → DA × Int} (h : (beginD D).2 = 0) : behindD D f = f (beginD D).1 := by unfold behindD; rw [if_pos h]
set_option maxRecDepth 100000 in
set_option maxHeartbeats 2000000 in
theorem dCreate_any (base db mb : Nat) (L : List (ByteArray × Fi)) (D : DA) (s : ByteArray) (hs : s.size ≤ maxLen) (w : World) (h : DK base w db mb L D) :
    Calls Tryd.prog 66 #[.pointer (some ⟨db, 0, none⟩), .string s] w (DTo base w db mb L (createD D s)) := by
  have HC := Lib.hid (dchange_any base db mb L D w h)
  obtain ⟨r, hr⟩ : ∃ r, r = beginD D := ⟨_, rfl⟩
  have HX : Hid ((r.2 ≠ 0 → createD D s = r) ∧ (r.2 = 0 → createD D s = createF s r.1)) := Lib.hid ⟨fun e => by rw [hr] at e ⊢; exact behindD_ne e, fun e => by rw [hr] at e ⊢; exact behindD_eq e⟩
  rw [← hr] at HC
  obtain ⟨D1, z⟩ := r
  have HS := Lib.hid hs
  have HN := Lib.hid (fun w => isName_any s w (by unfold maxLen at hs; omega))
  clear hr hs h
  by_cases hz : z = 0
  · have q0 : (z != 0) = false := bneF hz
    have HY := Lib.hid (HX.out.2 hz)
    subst hz
    cases hn : nameB s with
    | false =>
      have HZ := Lib.hid (show createF s D1 = (D1, 3) by unfold createF; rw [if_pos hn])
      rw [hn] at HN
      clear hn
      go_enter Tryd.func66, Tryd.ntmps66
      go_wp2_with fail
      refine HC.out.mono ?_
      rintro e w1 ⟨rfl, h1, hk1⟩
      have HD := Lib.hid (And.intro h1 hk1)
      clear h1 hk1
      go_wp2_with fail
      refine (HN.out _).mono ?_
      rintro e w2 ⟨rfl, rfl⟩
      go_wp2
      go_ret
      rw [HY.out, HZ.out]
      exact BeganTo.to ⟨rfl, HD.out.1, HD.out.2⟩
    | true =>
      rw [hn] at HN
      have HNB := Lib.hid hn
      clear hn
      cases hg : (getM D1.L s).isSome with
      | true =>
        have HZ := Lib.hid (show createF s D1 = (D1, 8) by unfold createF; rw [if_neg (by rw [HNB.out]; decide), if_pos hg])
        have HG := Lib.hid hg
        clear hg
        go_enter Tryd.func66, Tryd.ntmps66
        go_wp2_with fail
        refine HC.out.mono ?_
        rintro e w1 ⟨rfl, h1, hk1⟩
        have HD := Lib.hid (And.intro h1 hk1)
        have HH := Lib.hid (dhas_any base db mb L D1 s HS.out w1 h1)
        rw [HG.out] at HH
        clear h1 hk1
        go_wp2_with fail
        refine (HN.out _).mono ?_
        rintro e w2 ⟨rfl, rfl⟩
        go_wp2_with fail
        refine HH.out.mono ?_
        rintro e w2 ⟨rfl, k2⟩
        have HK2 := Lib.hid k2
        clear k2
        go_wp2
        go_ret
        rw [HY.out, HZ.out]
        exact BeganTo.to ⟨rfl, HD.out.1.kept HK2.out (fun _ _ x => x), HD.out.2.trans (HK2.out.mono (fun _ _ x => x.elim))⟩
      | false =>
        have HG := Lib.hid hg
        clear hg
        by_cases hm : 4096 ≤ D1.L.length
        · have HZ := Lib.hid (show createF s D1 = (D1, 6) by unfold createF; rw [if_neg (by rw [HNB.out]; decide), if_neg (by rw [HG.out]; decide), if_pos hm])
          have HM := Lib.hid hm
          clear hm
          go_enter Tryd.func66, Tryd.ntmps66
          go_wp2_with fail
          refine HC.out.mono ?_
          rintro e w1 ⟨rfl, h1, hk1⟩
          have HD := Lib.hid (And.intro h1 hk1)
          have HH := Lib.hid (dhas_any base db mb L D1 s HS.out w1 h1)
          rw [HG.out] at HH
          clear h1 hk1
          go_wp2_with fail
          refine (HN.out _).mono ?_
          rintro e w2 ⟨rfl, rfl⟩
          go_wp2_with fail
          refine HH.out.mono ?_
          rintro e w2 ⟨rfl, k2⟩
          have HD2 := Lib.hid (HD.out.1.kept k2 (fun _ _ x => x))
          have HK2 := Lib.hid (HD.out.2.trans (k2.mono (S' := fun k => k = db) (fun _ _ x => x.elim)))
          have c0 := HD2.out.c.1
          have hlen := HD2.out.map.runLen Tryd.underlying109
          obtain ⟨n, hn⟩ : ∃ n, n = (mapM Fi.val L).length := ⟨_, rfl⟩
          have q1 : (4096 : Int) ≤ (n : Int) := by have := HM.out; have := HD2.out.len; rw [hn]; unfold mapM; rw [List.length_map]; omega
          have q2 : decide (4096 ≤ n) = true := decide_eq_true (by omega)
          rw [← hn] at hlen
          clear k2 hn
          go_wp2
          go_ret
          rw [HY.out, HZ.out]
          exact BeganTo.to ⟨rfl, HD2.out, HK2.out⟩
        · have HZ := Lib.hid (show createF s D1 = ({ D1 with L := putS D1.L s ⟨[], 0⟩ }, 0) by unfold createF; rw [if_neg (by rw [HNB.out]; decide), if_neg (by rw [HG.out]; decide), if_neg hm])
          have HM := Lib.hid hm
          clear hm
          go_enter Tryd.func66, Tryd.ntmps66
          go_wp2_with fail
          refine HC.out.mono ?_
          rintro e w1 ⟨rfl, h1, hk1⟩
          have HD := Lib.hid (And.intro h1 hk1)
          have HH := Lib.hid (dhas_any base db mb L D1 s HS.out w1 h1)
          rw [HG.out] at HH
          clear h1 hk1
          go_wp2_with fail
          refine (HN.out _).mono ?_
          rintro e w2 ⟨rfl, rfl⟩
          go_wp2_with fail
          refine HH.out.mono ?_
          rintro e w2 ⟨rfl, k2⟩
          have HD2 := Lib.hid (HD.out.1.kept k2 (fun _ _ x => x))
          have HK2 := Lib.hid (HD.out.2.trans (k2.mono (S' := fun k => k = db) (fun _ _ x => x.elim)))
          have c0 := HD2.out.c.1
          have hlen := HD2.out.map.runLen Tryd.underlying109
          obtain ⟨n, hn⟩ : ∃ n, n = (mapM Fi.val L).length := ⟨_, rfl⟩
          have hn' : n = D1.L.length := by have := HD2.out.len; rw [hn]; unfold mapM; rw [List.length_map]; omega
          have q1 : ¬ (4096 : Int) ≤ (n : Int) := by have := HM.out; omega
          have q2 : decide (4096 ≤ n) = false := decide_eq_false (by have := HM.out; omega)
          obtain ⟨w3, hu, hm3, hk3⟩ := HD2.out.map.update Tryd.underlying9 Tryd.underlying109 HS.out nilFile.val (by have := HM.out; unfold maxLen; omega)
          have HP := Lib.hid (HD2.out.put (s := s) (f := nilFile) (D' := { D1 with L := putS D1.L s ⟨[], 0⟩ }) (by
              have := createF_ok (s := s) HD2.out.ok
              rw [HZ.out] at this
              exact this) rfl (by
              have hb := HD2.out.box.kept hk3 HD2.out.ne
              have e : usedL (putS D1.L s ⟨[], 0⟩) = usedL D1.L := by
                have := usedL_put HD2.out.ok.asc.pair s ⟨[], 0⟩
                have hg : getM D1.L s = none := by
                  have := HG.out
                  cases hx : getM D1.L s
                  · rfl
                  · rw [hx] at this; cases this
                rw [hg] at this
                simpa [szM] using this
              unfold boxD at hb ⊢
              simp only [e]
              exact hb) hm3 (.inl ⟨rfl, rfl, rfl⟩) (hk3.mono (fun k _ e => .inr (.inl e))) (fun k e => by cases e))
          rw [← hn] at hlen
          replace hu : (Instr.mapUpdate 109 (.map (some mb)) (.string s) (.agg #[.slice none 0 0, .int .i64 0])).run Tryd.prog w2 = .ok () w3 := hu
          clear k2 hn hn' hm3 hk3
          go_wp2
          go_ret
          rw [HY.out, HZ.out]
          exact DTo.behind HK2.out ⟨_, rfl, HP.out⟩
  · have q0 : (z != 0) = true := bneT hz
    have HY := Lib.hid (HX.out.1 hz)
    clear hz
    go_enter Tryd.func66, Tryd.ntmps66
    go_wp2_with fail
    refine HC.out.mono ?_
    rintro e w1 ⟨rfl, h1, hk1⟩
    have HD := Lib.hid (And.intro h1 hk1)
    clear h1 hk1
    go_wp2
    go_ret
    rw [HY.out]
    exact BeganTo.to ⟨rfl, HD.out.1, HD.out.2⟩
end Go.Proofs.YtficodklidaheaaDoor
