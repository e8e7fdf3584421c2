/- Texts put together: S5, RS, S6, WD. -/
import Derived.Test.YtficodklidaheaaDoorZz8
import Derived.Test.YtficodklidaheaaDoorProg
import Derived.Test.YtficodklidaheaaDoorZz2
import Derived.Test.YtficodklidaheaaDoorZz7
import Derived.Deep.RegionWith
/- Layer 18: what a store into the files leaves; bytes.Clone; Create, Sync, Remove, Size, Read. -/
namespace Go.Proofs.YtficodklidaheaaDoor
open Go.RowKit
attribute [local go_sem ↓] Go.wp_at_zero Go.wp_at_succ

theorem setM_mem' {α : Type} {L : List (ByteArray × α)} (hn : L.Pairwise fun p q => p.1 ≠ q.1) {s : ByteArray} {v : α} {p : ByteArray × α} (h : p ∈ setM L s v) : p = (s, v) ∨ (p ∈ L ∧ p.1 ≠ s) := by
  have h1 := getM_of (setM_pair hn s v) (s := p.1) (v := p.2) h
  rw [getM_set] at h1
  by_cases e : s = p.1
  · rw [if_pos e] at h1
    injection h1 with h1
    exact .inl (Prod.ext e.symm h1.symm)
  · rw [if_neg e] at h1
    exact .inr ⟨getM_mem h1, Ne.symm e⟩
section
variable {base : Nat} {w w' : World} {db mb : Nat} {L : List (ByteArray × Fi)} {D D' : DA}
theorem DK.ofGet (h : L.Pairwise fun p q => p.1 ≠ q.1) (ok : DOk D') (hg : ∀ t, (getM L t).map Fi.t = getM D'.L t) : (mapM Fi.t L).Perm D'.L :=
  perm_of_get (mapM_pair _ h) ok.asc.pair (fun t => by rw [getM_map, hg])
theorem DK.noBox (h : DK base w db mb L D) {p : ByteArray × Fi} (hp : p ∈ L) {k : Nat} (hk : p.2.v.ownBlock = some k) : k ≠ db ∧ k ≠ mb := by
  obtain ⟨cur, h1, _⟩ := (h.data p hp).block hk
  constructor
  · intro x
    have hb := h.box
    unfold BoxAt at hb
    rw [x, hb] at h1
    injection h1 with h1
    injection h1 with _ h1
    exact absurd h1 (by decide)
  · exact h.map.notCells h1
theorem lookF_some {s : ByteArray} {f : Fi} (h : getM L s = some f) : lookF L s = f := by unfold lookF; rw [h]; rfl
theorem lookF_none {s : ByteArray} (h : getM L s = none) : lookF L s = nilFile := by unfold lookF; rw [h]; rfl
/-- The block of what stands at another name. -/
theorem DK.other (h : DK base w db mb L D) {s : ByteArray} {p : ByteArray × Fi} (hp : p ∈ L) (hne : p.1 ≠ s) {k : Nat} (hk : p.2.v.ownBlock = some k) : (lookF L s).v.ownBlock ≠ some k := by
  cases hx : getM L s with
  | none => rw [lookF_none hx]; intro e; cases e
  | some f => rw [lookF_some hx]; exact h.sep p hp (s, f) (getM_mem hx) hne k hk
/-- Which blocks a disk's calls may write. -/
def Foot (w : World) (db mb : Nat) (L L' : List (ByteArray × Fi)) : Prop := ∀ k, foot db mb L' k → foot db mb L k ∨ w.heap.size ≤ k
theorem Foot.refl (w : World) (db mb : Nat) (L : List (ByteArray × Fi)) : Foot w db mb L L := fun _ h => .inl h
theorem DK.put (h : DK base w db mb L D) {s : ByteArray} {f : Fi} (ok : DOk D') (hL : D'.L = putS D.L s f.t) (hb : BoxAt w' db 111 (boxD mb D')) (hm : MapIs w' mb (setM (mapM Fi.val L) s f.val)) (ho : OwnB base w' f)
    (hk : Kept (fun k => k = db ∨ k = mb ∨ (lookF L s).v.ownBlock = some k) w w') (hf : ∀ k, f.v.ownBlock = some k → (lookF L s).v.ownBlock = some k ∨ w.heap.size ≤ k) :
    DK base w' db mb (setM L s f) D' ∧ Kept (foot db mb L) w w' ∧ Foot w db mb L (setM L s f) := by
  rw [setM_map] at hm
  have hlk : ∀ k, (lookF L s).v.ownBlock = some k → ∃ p ∈ L, p.2.v.ownBlock = some k := fun k e => by
    cases hx : getM L s with
    | none => rw [lookF_none hx] at e; cases e
    | some f0 => rw [lookF_some hx] at e; exact ⟨(s, f0), getM_mem hx, e⟩
  have hnew : ∀ p ∈ L, p.1 ≠ s → ∀ k, f.v.ownBlock = some k → p.2.v.ownBlock ≠ some k := fun p hp hne k e x => by
    rcases hf k e with e1 | e1
    · exact h.other hp hne x e1
    · have := (h.lt (.inr (.inr ⟨p, hp, x⟩))).1
      omega
  refine ⟨⟨hb, hm, DK.ofGet (setM_pair h.pair s f) ok (fun t => ?_), fun p hp => ?_, fun p hp q hq hne k e => ?_, h.base, ok⟩, hk.mono (fun k _ e => ?_), fun k e => ?_⟩
  · rw [hL, getM_set, getM_put]
    by_cases e : s = t
    · rw [if_pos e, if_pos e]; rfl
    · rw [if_neg e, if_neg e, h.get]
  · rcases setM_mem' h.pair hp with rfl | ⟨hp, hne⟩
    · exact ho
    · refine (h.data p hp).kept hk (fun j e x => ?_)
      obtain ⟨n1, n2⟩ := h.noBox hp e
      rcases x with x | x | x
      · exact n1 x
      · exact n2 x
      · exact h.other hp hne e x
  · rcases setM_mem' h.pair hp with rfl | ⟨hp, hp'⟩
    · rcases setM_mem' h.pair hq with rfl | ⟨hq, hq'⟩
      · exact absurd rfl hne
      · exact hnew q hq hq' k e
    · rcases setM_mem' h.pair hq with rfl | ⟨hq, hq'⟩
      · exact fun x => hnew p hp hp' k x e
      · exact h.sep p hp q hq hne k e
  · rcases e with e | e | e
    · exact .inl e
    · exact .inr (.inl e)
    · exact .inr (.inr (hlk k e))
  · rcases e with e | e | ⟨p, hp, e⟩
    · exact .inl (.inl e)
    · exact .inl (.inr (.inl e))
    · rcases setM_mem' h.pair hp with rfl | ⟨hp, _⟩
      · rcases hf k e with e1 | e1
        · exact .inl (.inr (.inr (hlk k e1)))
        · exact .inr e1
      · exact .inl (.inr (.inr ⟨p, hp, e⟩))
theorem DK.del (h : DK base w db mb L D) {s : ByteArray} (ok : DOk D') (hL : D'.L = delM D.L s) (hb : BoxAt w' db 111 (boxD mb D')) (hm : MapIs w' mb (delM (mapM Fi.val L) s))
    (hk : Kept (fun k => k = db ∨ k = mb) w w') : DK base w' db mb (delM L s) D' ∧ Kept (foot db mb L) w w' ∧ Foot w db mb L (delM L s) := by
  rw [delM_map] at hm
  refine ⟨⟨hb, hm, DK.ofGet (delM_pair h.pair s) ok (fun t => ?_), fun p hp => ?_, fun p hp q hq hne k e => h.sep p (delM_mem hp).1 q (delM_mem hq).1 hne k e, h.base, ok⟩, hk.mono (fun k _ e => ?_), fun k e => ?_⟩
  · rw [hL, getM_del, getM_del]
    by_cases e : s = t
    · rw [if_pos e, if_pos e]; rfl
    · rw [if_neg e, if_neg e, h.get]
  · have hp' := (delM_mem hp).1
    exact (h.data p hp').kept hk (fun j e x => by
      obtain ⟨n1, n2⟩ := h.noBox hp' e
      rcases x with x | x
      · exact n1 x
      · exact n2 x)
  · rcases e with e | e
    · exact .inl e
    · exact .inr (.inl e)
  · rcases e with e | e | ⟨p, hp, e⟩
    · exact .inl (.inl e)
    · exact .inl (.inr (.inl e))
    · exact .inl (.inr (.inr ⟨p, (delM_mem hp).1, e⟩))
end
/-- What a call on a disk leaves. -/
def DTo (base : Nat) (w : World) (db mb : Nat) (L : List (ByteArray × Fi)) (r : DA × Int) (e : Ending) (w' : World) : Prop := ∃ L', e = .returned (.int .i64 r.2) ∧ DK base w' db mb L' r.1 ∧ Kept (foot db mb L) w w' ∧ Foot w db mb L L'
theorem BeganTo.to {base : Nat} {w : World} {db mb : Nat} {L : List (ByteArray × Fi)} {r : DA × Int} {e : Ending} {w' : World} (h : BeganTo base w db mb L r e w') : DTo base w db mb L r e w' :=
  ⟨L, h.1, h.2.1, h.2.2.mono (fun _ _ e => .inl e), Foot.refl _ _ _ _⟩
theorem DTo.behind {base : Nat} {w w1 : World} {db mb : Nat} {L : List (ByteArray × Fi)} {r : DA × Int} {e : Ending} {w' : World} (k : Kept (fun k => k = db) w w1) (h : DTo base w1 db mb L r e w') : DTo base w db mb L r e w' := by
  obtain ⟨L', h1, h2, h3, h4⟩ := h
  refine ⟨L', h1, h2, (k.mono (fun _ _ e => .inl e)).trans h3, fun j e => ?_⟩
  rcases h4 j e with x | x
  · exact .inl x
  · exact .inr (Nat.le_trans k.size x)
theorem behindD_ne {D : DA} {f : DA → DA × Int} (h : (beginD D).2 ≠ 0) : behindD D f = beginD D := by unfold behindD; rw [if_neg h]
theorem behindD_eq {D : DA} {f : DA → DA × Int} (h : (beginD D).2 = 0) : behindD D f = f (beginD D).1 := by unfold behindD; rw [if_pos h]
set_option maxRecDepth 100000 in
set_option maxHeartbeats 2000000 in
theorem dCreate_any (base db mb : Nat) (L : List (ByteArray × Fi)) (D : DA) (s : ByteArray) (hs : s.size ≤ maxLen) (w : World) (h : DK base w db mb L D) :
    Calls Tryd.prog 66 #[.pointer (some ⟨db, 0, none⟩), .string s] w (DTo base w db mb L (createD D s)) := by
  have HC := Lib.hid (dchange_any base db mb L D w h)
  obtain ⟨r, hr⟩ : ∃ r, r = beginD D := ⟨_, rfl⟩
  have HX : Hid ((r.2 ≠ 0 → createD D s = r) ∧ (r.2 = 0 → createD D s = createF s r.1)) := Lib.hid ⟨fun e => by rw [hr] at e ⊢; exact behindD_ne e, fun e => by rw [hr] at e ⊢; exact behindD_eq e⟩
  rw [← hr] at HC
  obtain ⟨D1, z⟩ := r
  have HS := Lib.hid hs
  have HN := Lib.hid (fun w => isName_any s w (by unfold maxLen at hs; omega))
  clear hr hs h
  by_cases hz : z = 0
  · have q0 : (z != 0) = false := bneF hz
    have HY := Lib.hid (HX.out.2 hz)
    subst hz
    cases hn : nameB s with
    | false =>
      have HZ := Lib.hid (show createF s D1 = (D1, 3) by unfold createF; rw [if_pos hn])
      rw [hn] at HN
      clear hn
      go_enter Tryd.func66, Tryd.ntmps66
      go_wp2_with fail
      refine HC.out.mono ?_
      rintro e w1 ⟨rfl, h1, hk1⟩
      have HD := Lib.hid (And.intro h1 hk1)
      clear h1 hk1
      go_wp2_with fail
      refine (HN.out _).mono ?_
      rintro e w2 ⟨rfl, rfl⟩
      go_wp2
      go_ret
      rw [HY.out, HZ.out]
      exact BeganTo.to ⟨rfl, HD.out.1, HD.out.2⟩
    | true =>
      rw [hn] at HN
      have HNB := Lib.hid hn
      clear hn
      cases hg : (getM D1.L s).isSome with
      | true =>
        have HZ := Lib.hid (show createF s D1 = (D1, 8) by unfold createF; rw [if_neg (by rw [HNB.out]; decide), if_pos hg])
        have HG := Lib.hid hg
        clear hg
        go_enter Tryd.func66, Tryd.ntmps66
        go_wp2_with fail
        refine HC.out.mono ?_
        rintro e w1 ⟨rfl, h1, hk1⟩
        have HD := Lib.hid (And.intro h1 hk1)
        have HH := Lib.hid (dhas_any base db mb L D1 s HS.out w1 h1)
        rw [HG.out] at HH
        clear h1 hk1
        go_wp2_with fail
        refine (HN.out _).mono ?_
        rintro e w2 ⟨rfl, rfl⟩
        go_wp2_with fail
        refine HH.out.mono ?_
        rintro e w2 ⟨rfl, k2⟩
        have HK2 := Lib.hid k2
        clear k2
        go_wp2
        go_ret
        rw [HY.out, HZ.out]
        exact BeganTo.to ⟨rfl, HD.out.1.kept HK2.out (fun _ _ x => x), HD.out.2.trans (HK2.out.mono (fun _ _ x => x.elim))⟩
      | false =>
        have HG := Lib.hid hg
        clear hg
        by_cases hm : 4096 ≤ D1.L.length
        · have HZ := Lib.hid (show createF s D1 = (D1, 6) by unfold createF; rw [if_neg (by rw [HNB.out]; decide), if_neg (by rw [HG.out]; decide), if_pos hm])
          have HM := Lib.hid hm
          clear hm
          go_enter Tryd.func66, Tryd.ntmps66
          go_wp2_with fail
          refine HC.out.mono ?_
          rintro e w1 ⟨rfl, h1, hk1⟩
          have HD := Lib.hid (And.intro h1 hk1)
          have HH := Lib.hid (dhas_any base db mb L D1 s HS.out w1 h1)
          rw [HG.out] at HH
          clear h1 hk1
          go_wp2_with fail
          refine (HN.out _).mono ?_
          rintro e w2 ⟨rfl, rfl⟩
          go_wp2_with fail
          refine HH.out.mono ?_
          rintro e w2 ⟨rfl, k2⟩
          have HD2 := Lib.hid (HD.out.1.kept k2 (fun _ _ x => x))
          have HK2 := Lib.hid (HD.out.2.trans (k2.mono (S' := fun k => k = db) (fun _ _ x => x.elim)))
          have c0 := HD2.out.c.1
          have hlen := HD2.out.map.runLen Tryd.underlying109
          obtain ⟨n, hn⟩ : ∃ n, n = (mapM Fi.val L).length := ⟨_, rfl⟩
          have q1 : (4096 : Int) ≤ (n : Int) := by have := HM.out; have := HD2.out.len; rw [hn]; unfold mapM; rw [List.length_map]; omega
          have q2 : decide (4096 ≤ n) = true := decide_eq_true (by omega)
          rw [← hn] at hlen
          clear k2 hn
          go_wp2
          go_ret
          rw [HY.out, HZ.out]
          exact BeganTo.to ⟨rfl, HD2.out, HK2.out⟩
        · have HZ := Lib.hid (show createF s D1 = ({ D1 with L := putS D1.L s ⟨[], 0⟩ }, 0) by unfold createF; rw [if_neg (by rw [HNB.out]; decide), if_neg (by rw [HG.out]; decide), if_neg hm])
          have HM := Lib.hid hm
          clear hm
          go_enter Tryd.func66, Tryd.ntmps66
          go_wp2_with fail
          refine HC.out.mono ?_
          rintro e w1 ⟨rfl, h1, hk1⟩
          have HD := Lib.hid (And.intro h1 hk1)
          have HH := Lib.hid (dhas_any base db mb L D1 s HS.out w1 h1)
          rw [HG.out] at HH
          clear h1 hk1
          go_wp2_with fail
          refine (HN.out _).mono ?_
          rintro e w2 ⟨rfl, rfl⟩
          go_wp2_with fail
          refine HH.out.mono ?_
          rintro e w2 ⟨rfl, k2⟩
          have HD2 := Lib.hid (HD.out.1.kept k2 (fun _ _ x => x))
          have HK2 := Lib.hid (HD.out.2.trans (k2.mono (S' := fun k => k = db) (fun _ _ x => x.elim)))
          have c0 := HD2.out.c.1
          have hlen := HD2.out.map.runLen Tryd.underlying109
          obtain ⟨n, hn⟩ : ∃ n, n = (mapM Fi.val L).length := ⟨_, rfl⟩
          have hn' : n = D1.L.length := by have := HD2.out.len; rw [hn]; unfold mapM; rw [List.length_map]; omega
          have q1 : ¬ (4096 : Int) ≤ (n : Int) := by have := HM.out; omega
          have q2 : decide (4096 ≤ n) = false := decide_eq_false (by have := HM.out; omega)
          obtain ⟨w3, hu, hm3, hk3⟩ := HD2.out.map.update Tryd.underlying9 Tryd.underlying109 HS.out nilFile.val (by have := HM.out; unfold maxLen; omega)
          have HP := Lib.hid (HD2.out.put (s := s) (f := nilFile) (D' := { D1 with L := putS D1.L s ⟨[], 0⟩ }) (by
              have := createF_ok (s := s) HD2.out.ok
              rw [HZ.out] at this
              exact this) rfl (by
              have hb := HD2.out.box.kept hk3 HD2.out.ne
              have e : usedL (putS D1.L s ⟨[], 0⟩) = usedL D1.L := by
                have := usedL_put HD2.out.ok.asc.pair s ⟨[], 0⟩
                have hg : getM D1.L s = none := by
                  have := HG.out
                  cases hx : getM D1.L s
                  · rfl
                  · rw [hx] at this; cases this
                rw [hg] at this
                simpa [szM] using this
              unfold boxD at hb ⊢
              simp only [e]
              exact hb) hm3 (.inl ⟨rfl, rfl, rfl⟩) (hk3.mono (fun k _ e => .inr (.inl e))) (fun k e => by cases e))
          rw [← hn] at hlen
          replace hu : (Instr.mapUpdate 109 (.map (some mb)) (.string s) (.agg #[.slice none 0 0, .int .i64 0])).run Tryd.prog w2 = .ok () w3 := hu
          clear k2 hn hn' hm3 hk3
          go_wp2
          go_ret
          rw [HY.out, HZ.out]
          exact DTo.behind HK2.out ⟨_, rfl, HP.out⟩
  · have q0 : (z != 0) = true := bneT hz
    have HY := Lib.hid (HX.out.1 hz)
    clear hz
    go_enter Tryd.func66, Tryd.ntmps66
    go_wp2_with fail
    refine HC.out.mono ?_
    rintro e w1 ⟨rfl, h1, hk1⟩
    have HD := Lib.hid (And.intro h1 hk1)
    clear h1 hk1
    go_wp2
    go_ret
    rw [HY.out]
    exact BeganTo.to ⟨rfl, HD.out.1, HD.out.2⟩
end Go.Proofs.YtficodklidaheaaDoor
/- Results of four cells, of a struct beside others. -/
namespace Go.Proofs.YtficodklidaheaaDoor
open Go.RowKit
attribute [local go_sem ↓] Go.wp_at_zero Go.wp_at_succ

theorem results_tmp4 {fn : Func} {t u v x : Tmp} (h : fn.results = #[.tmp t, .tmp u, .tmp v, .tmp x]) (tmps : Array Value) (P : Program) (w : World) :
    (results fn tmps).run P w = .ok (.tuple #[tmps.getD t undef, tmps.getD u undef, tmps.getD v undef, tmps.getD x undef]) w := by
  simp [results, h]
theorem results_ct {P : Program} {fn : Func} {p t : Tmp} {ty : TypeId} (h : fn.results = #[.cell p ty, .tmp t]) (tmps : Array Value) (w : World) (g : Nat) (t' : TypeId) (cs : Array Value) (fr : Nat × Nat) (d : TypeDesc)
    (hp : tmps.getD p undef = .pointer (some ⟨g, 0, none⟩)) (hg : w.heap[g]? = some (.cells cs t' fr))
    (hu : P.underlying ty = some d) (hd : (match d with | .struct _ | .array _ _ => true | _ => false) = true) (hi : (P.info? ty).map (·.size) = some cs.size) :
    (results fn tmps).run P w = .ok (.tuple #[.agg cs, tmps.getD t undef]) w := by
  have hp' : tmps[p]?.getD undef = .pointer (some ⟨g, 0, none⟩) := by simpa using hp
  simp [results, h, hp', asAddr, run_loadVar_row w g t' ty cs fr d hg hu hd hi]
theorem results_ctt {P : Program} {fn : Func} {p t u : Tmp} {ty : TypeId} (h : fn.results = #[.cell p ty, .tmp t, .tmp u]) (tmps : Array Value) (w : World) (g : Nat) (t' : TypeId) (cs : Array Value) (fr : Nat × Nat) (d : TypeDesc)
    (hp : tmps.getD p undef = .pointer (some ⟨g, 0, none⟩)) (hg : w.heap[g]? = some (.cells cs t' fr))
    (hu : P.underlying ty = some d) (hd : (match d with | .struct _ | .array _ _ => true | _ => false) = true) (hi : (P.info? ty).map (·.size) = some cs.size) :
    (results fn tmps).run P w = .ok (.tuple #[.agg cs, tmps.getD t undef, tmps.getD u undef]) w := by
  have hp' : tmps[p]?.getD undef = .pointer (some ⟨g, 0, none⟩) := by simpa using hp
  simp [results, h, hp', asAddr, run_loadVar_row w g t' ty cs fr d hg hu hd hi]

end Go.Proofs.YtficodklidaheaaDoor
/- Layer 18: bytes.Clone; Read, Size, Sync. -/
namespace Go.Proofs.YtficodklidaheaaDoor
open Go.RowKit
attribute [local go_sem ↓] Go.wp_at_zero Go.wp_at_succ

set_option maxRecDepth 100000 in
theorem bcloneN_any (a : Option Addr) (n c : Nat) (b : List Nat) (hn : b.length = n) (w : World) (hv : SlAt w (.slice a n c) (byV b)) (hl : n ≤ 1000000000) :
    Calls Tryd.prog 60 #[.slice a n c] w fun e w' => ∃ a' c', e = .returned (.slice a' n c') ∧ Mine w w' 5 (.slice a' n c') (byV b) := by
  have q29 := fun (w : World) (a : Option Addr) (n c n' c' : Nat) => Lib.run_eql_slice_nil (P := Tryd.prog) w 22 5 a n c n' c' Tryd.underlying22
  obtain ⟨iI, hiI, hzI0, hzI1, hzI2⟩ := info_parts Tryd.infoU8
  have hub : (byV b).length = n := by rw [← hn, byV_length]
  cases a with
  | none =>
    have hz : b = [] := by
      obtain ⟨ao, c', e, hz, _⟩ := hv.val
      injection e with e1 e2 e3
      have := hz e1.symm
      unfold byV at this
      simpa using this
    subst hz
    have hn0 : n = 0 := by simpa using hn.symm
    subst hn0
    clear hv
    go_enter Tryd.func60, Tryd.ntmps60
    go_wp2
    go_ret
    exact ⟨none, 0, rfl, Mine.nil _ _⟩
  | some a =>
    have hs : Src Tryd.prog 1 22 (.slice (some a) n c) (byV b).length (byV b) (w.alloc (.cells #[] 5)) :=
      (hv.kept ((Kept.refl (fun _ => False) w).alloc (.cells #[] 5)) (fun _ _ x => x)).src Tryd.underlying22 (byV_one b)
    have hown0 : Mine w (w.alloc (.cells #[] 5)) 5 (.slice (some ⟨w.heap.size, 0, none⟩) 0 0) [] :=
      ⟨⟨rfl, .inr ⟨w.heap.size, 0, #[], rfl, Nat.le_refl _, heap_alloc_new w _, Nat.le_refl _, by unfold maxLen; omega, rfl, rfl⟩⟩, (Kept.refl _ _).alloc _⟩
    have HO := Lib.hid hown0
    have HS := Lib.hid hs
    have HL := Lib.hid hl
    have HUB := Lib.hid hub
    obtain ⟨xs, hxs⟩ : ∃ xs, xs = byV b := ⟨_, rfl⟩
    rw [← hxs] at HS HUB ⊢
    clear hv hown0 hs hn hl hub hxs
    go_enter Tryd.func60, Tryd.ntmps60
    go_wp2_with (at_builtin; refine wpList_mine rfl (.tmp 5) (.tmp 6) _ _ rfl 5 iI (.int .u8 0) 1 Tryd.underlying22 hiI hzI0 hzI1 hzI2 rfl (by omega) w _ [] rfl HO.out _ xs rfl HS.out (by have := HL.out; have := HUB.out; simp; omega) ?_; intro v' w1 hm; have HM := Lib.hid hm; clear hm)
    go_ret
    have hm := HM.out
    rw [List.nil_append] at hm
    obtain ⟨a', c', rfl⟩ := hm.slice
    rw [HUB.out] at hm ⊢
    exact ⟨a', c', rfl, hm⟩
theorem DK.bytes_small {base : Nat} {w : World} {db mb : Nat} {L : List (ByteArray × Fi)} {D : DA} (h : DK base w db mb L D) {s : ByteArray} {f : Fi} (hf : getM L s = some f) : f.b.length ≤ 4194304 ∧ f.s ≤ f.b.length ∧ (∀ x ∈ f.b, x < 256) ∧ getM D.L s = some f.t := by
  have hg := h.get s
  rw [hf] at hg
  have hm := getM_mem hg.symm
  have h1 := usedL_del h.ok.asc.pair s
  rw [← hg] at h1
  simp only [Option.map_some, szM, Fi.t] at h1
  have := h.ok.used
  have := h.ok.capR
  exact ⟨by omega, h.ok.sure _ hm, h.ok.byte _ hm, hg.symm⟩
/-- What Read answers. -/
def readA (D : DA) (s : ByteArray) : List Nat × Int := if D.down = true then ([], 13) else match getM D.L s with | none => ([], 7) | some f => (f.b, 0)
def ReadTo (w : World) (r : List Nat × Int) (e : Ending) (w' : World) : Prop := ∃ a c, e = .returned (.tuple #[.slice a r.1.length c, .int .i64 r.2]) ∧ Mine w w' 5 (.slice a r.1.length c) (byV r.1)
set_option maxRecDepth 100000 in
set_option maxHeartbeats 2000000 in
theorem dRead_any (base db mb : Nat) (L : List (ByteArray × Fi)) (D : DA) (s : ByteArray) (hs : s.size ≤ maxLen) (w : World) (h : DK base w db mb L D) :
    Calls Tryd.prog 29 #[.pointer (some ⟨db, 0, none⟩), .string s] w (ReadTo w (readA D s)) := by
  have c0 := h.c.1
  have c3 := h.c.2.2.2.1
  unfold readA
  cases hd : D.down with
  | true =>
    rw [hd] at c3
    clear h hd
    go_enter Tryd.func29, Tryd.ntmps29
    go_wp2
    go_ret2
    exact ⟨none, 0, rfl, Mine.nil _ _⟩
  | false =>
    rw [hd] at c3
    have hl := (h.look hs).2
    cases hf : getM L s with
    | none =>
      have hg : getM D.L s = none := by rw [← h.get, hf]; rfl
      rw [lookF_none hf, hg] at hl
      rw [hg]
      replace hl : (Instr.lookup 109 (.map (some mb)) (.string s) true).run Tryd.prog w = .ok (.tuple #[.agg #[.slice none 0 0, .int .i64 0], .bool false]) w := hl
      have HK := Lib.hid ((Kept.refl (fun _ => False) w).alloc (.cells #[.slice none 0 0, .int .i64 0] 114))
      clear h hd hf hg
      go_enter Tryd.func29, Tryd.ntmps29
      go_wp2
      go_ret2
      exact ⟨none, 0, rfl, Mine.nil' _ HK.out⟩
    | some f =>
      obtain ⟨n1, n2, n3, hg⟩ := h.bytes_small hf
      rw [lookF_some hf, hg] at hl
      rw [hg]
      obtain ⟨a, c, b, z⟩ := f
      have ho := (h.data _ (getM_mem hf)).at_
      unfold Fi.v at ho
      simp only at ho hl n1
      unfold Fi.t
      simp only
      obtain ⟨n, hn⟩ : ∃ n, n = b.length := ⟨_, rfl⟩
      obtain ⟨wa, hwa⟩ : ∃ wa, wa = w.alloc (.cells #[.slice a n c, .int .i64 (z : Int)] 114) := ⟨_, rfl⟩
      have ka : Kept (fun _ => False) w wa := by rw [hwa]; exact (Kept.refl _ _).alloc _
      rw [← hn] at ho hl n1
      have HC := Lib.hid (bcloneN_any a n c b hn.symm wa (ho.kept ka (fun _ _ x => x)) (by omega))
      have HK := Lib.hid ka
      have HW := Lib.hid hwa
      have HN := Lib.hid hn
      clear h hd hf hg ho hwa ka n1 n2 n3 hn
      go_enter Tryd.func29, Tryd.ntmps29
      go_wp2_with fail
      rw [← HW.out]
      refine HC.out.mono ?_
      rintro e w1 ⟨a', c', rfl, hm⟩
      have HM := Lib.hid hm
      clear hm
      go_wp2
      go_ret2
      have hm := HM.out.down HK.out
      rw [HN.out] at hm ⊢
      exact ⟨a', c', rfl, hm⟩
/-- What Size answers. -/
def sizeA (D : DA) (s : ByteArray) : Int × Int × Int := if D.down = true then (0, 0, 13) else match getM D.L s with | none => (0, 0, 7) | some f => ((f.b.length : Int), (f.s : Int), 0)
set_option maxRecDepth 100000 in
set_option maxHeartbeats 2000000 in
theorem dSize_any (base db mb : Nat) (L : List (ByteArray × Fi)) (D : DA) (s : ByteArray) (hs : s.size ≤ maxLen) (w : World) (h : DK base w db mb L D) :
    Calls Tryd.prog 35 #[.pointer (some ⟨db, 0, none⟩), .string s] w fun e w' => e = .returned (.tuple #[.int .i64 (sizeA D s).1, .int .i64 (sizeA D s).2.1, .int .i64 (sizeA D s).2.2]) ∧ Kept (fun _ => False) w w' := by
  have c0 := h.c.1
  have c3 := h.c.2.2.2.1
  unfold sizeA
  cases hd : D.down with
  | true =>
    rw [hd] at c3
    clear h hd
    go_enter Tryd.func35, Tryd.ntmps35
    go_wp2
    go_ret3
    exact ⟨rfl, Kept.refl _ _⟩
  | false =>
    rw [hd] at c3
    have hl := (h.look hs).2
    cases hf : getM L s with
    | none =>
      have hg : getM D.L s = none := by rw [← h.get, hf]; rfl
      rw [lookF_none hf, hg] at hl
      rw [hg]
      replace hl : (Instr.lookup 109 (.map (some mb)) (.string s) true).run Tryd.prog w = .ok (.tuple #[.agg #[.slice none 0 0, .int .i64 0], .bool false]) w := hl
      have HK := Lib.hid ((Kept.refl (fun _ => False) w).alloc (.cells #[.slice none 0 0, .int .i64 0] 114))
      clear h hd hf hg
      go_enter Tryd.func35, Tryd.ntmps35
      go_wp2
      go_ret3
      exact ⟨rfl, HK.out⟩
    | some f =>
      obtain ⟨n1, n2, n3, hg⟩ := h.bytes_small hf
      rw [lookF_some hf, hg] at hl
      rw [hg]
      obtain ⟨a, c, b, z⟩ := f
      simp only at hl
      unfold Fi.t
      simp only
      obtain ⟨n, hn⟩ : ∃ n, n = b.length := ⟨_, rfl⟩
      rw [← hn] at hl ⊢
      have HK := Lib.hid (((Kept.refl (fun _ => False) w).alloc (.cells #[.slice a n c, .int .i64 (z : Int)] 114)).drew)
      clear h hd hf hg n1 n2 n3 hn
      go_enter Tryd.func35, Tryd.ntmps35
      go_upto_region 6 with fail
      go_region
      go_wp2
      go_ret3
      exact ⟨rfl, HK.out⟩
theorem beginOf_zero {D : DA} {s : ByteArray} (h : (beginOf D s).2 = 0) : ∃ p, getM (beginOf D s).1.L s = some p ∧ ∀ g, behindD D (withF s g) = g p (beginOf D s).1 := by
  unfold beginOf at h ⊢
  by_cases h0 : (beginD D).2 = 0
  · rw [if_pos h0] at h ⊢
    cases hx : getM D.L s with
    | none => rw [hx] at h; simp at h
    | some p =>
      simp only [Option.isSome_some, if_true]
      have hL := (beginD_L D).1
      refine ⟨p, by rw [← hx, hL], fun g => ?_⟩
      rw [behindD_eq h0]
      unfold withF
      rw [hL, hx]
  · rw [if_neg h0] at h
    exact absurd h h0
theorem beginOf_ne {D : DA} {s : ByteArray} (h : (beginOf D s).2 ≠ 0) (g : PF → DA → DA × Int) : behindD D (withF s g) = beginOf D s := by
  unfold beginOf at h ⊢
  by_cases h0 : (beginD D).2 = 0
  · rw [if_pos h0] at h ⊢
    rw [behindD_eq h0]
    have hL := (beginD_L D).1
    cases hx : getM D.L s with
    | some p => rw [hx] at h; simp at h
    | none =>
      unfold withF
      rw [hL, hx]
      rfl
  · rw [if_neg h0, behindD_ne h0]
set_option maxRecDepth 100000 in
set_option maxHeartbeats 2000000 in
theorem dSync_any (base db mb : Nat) (L : List (ByteArray × Fi)) (D : DA) (s : ByteArray) (hs : s.size ≤ maxLen) (w : World) (h : DK base w db mb L D) :
    Calls Tryd.prog 47 #[.pointer (some ⟨db, 0, none⟩), .string s] w (DTo base w db mb L (syncD D s)) := by
  have HC := Lib.hid (dchangeOf_any base db mb L D s hs w h)
  have HX := Lib.hid (And.intro (fun e : (beginOf D s).2 = 0 => beginOf_zero e) (fun e : (beginOf D s).2 ≠ 0 => beginOf_ne e))
  have hok := syncD_ok h.ok s
  unfold syncD at hok ⊢
  obtain ⟨g, hg⟩ : ∃ g : PF → DA → DA × Int, g = fun f D => ({ D with L := putS D.L s ⟨f.b, f.b.length⟩ }, 0) := ⟨_, rfl⟩
  rw [← hg] at hok ⊢
  have HG := Lib.hid (And.intro hg hok)
  obtain ⟨r, hr⟩ : ∃ r, r = beginOf D s := ⟨_, rfl⟩
  rw [← hr] at HC HX
  obtain ⟨D1, z⟩ := r
  have HS := Lib.hid hs
  clear hr hs h hg hok
  go_enter Tryd.func47, Tryd.ntmps47
  go_wp2_with fail
  refine HC.out.mono ?_
  rintro e w1 ⟨rfl, h1, hk1⟩
  have HD := Lib.hid (And.intro h1 hk1)
  clear h1 hk1
  by_cases hz : z = 0
  · have q0 : (z != 0) = false := bneF hz
    obtain ⟨p, hp, hgp⟩ := HX.out.1 hz
    have hy := hgp g
    have hok := HG.out.2
    rw [hy, HG.out.1] at hok
    have HY := Lib.hid (And.intro hy hok)
    have h1 := HD.out.1
    have hg1 := h1.get s
    rw [hp] at hg1
    cases hf : getM L s with
    | none => rw [hf] at hg1; cases hg1
    | some f =>
      have c0 := h1.c.1
      have hl := (h1.look HS.out).1
      rw [lookF_some hf] at hl
      obtain ⟨a, c, b, y⟩ := f
      simp only at hl
      obtain ⟨n, hn⟩ : ∃ n, n = b.length := ⟨_, rfl⟩
      obtain ⟨wa, hwa⟩ : ∃ wa, wa = w1.alloc (.cells #[.slice a n c, .int .i64 (y : Int)] 114) := ⟨_, rfl⟩
      have ka : Kept (fun _ => False) w1 wa.drew := by rw [hwa]; exact ((Kept.refl _ _).alloc _).drew
      have ha := h1.kept ka (fun _ _ x => x)
      obtain ⟨w3, hu, hm3, hk3⟩ := ha.map.update Tryd.underlying9 Tryd.underlying109 HS.out (⟨a, c, b, n⟩ : Fi).val (by have := ha.ok.count; have := ha.len; unfold mapM maxLen; rw [List.length_map]; omega)
      have HP := Lib.hid (ha.put (s := s) (f := ⟨a, c, b, n⟩) (D' := { D1 with L := putS D1.L s ⟨b, n⟩ }) (by
          rw [hn]
          have hpb : p = ⟨b, y⟩ := by
            rw [hf] at hg1
            simp only [Option.map_some, Fi.t, Option.some.injEq] at hg1
            exact hg1.symm
          have := HY.out.2
          rw [hpb] at this
          exact this) rfl (by
          have hb := ha.box.kept hk3 ha.ne
          have e : usedL (putS D1.L s ⟨b, n⟩) = usedL D1.L := by
            have := usedL_put ha.ok.asc.pair s ⟨b, n⟩
            have hg2 := ha.get s
            rw [hf] at hg2
            rw [← hg2] at this
            simpa [szM, Fi.t] using this
          unfold boxD at hb ⊢
          simp only [e]
          exact hb) hm3 ((ha.data _ (getM_mem hf)).kept hk3 (fun k e => (ha.noBox (getM_mem hf) e).2)) (hk3.mono (fun k _ e => .inr (.inl e))) (fun k e => .inl (by rw [lookF_some hf]; exact e)))
      replace hu : (Instr.mapUpdate 109 (.map (some mb)) (.string s) (.agg #[.slice a n c, .int .i64 (n : Int)])).run Tryd.prog wa.drew = .ok () w3 := by
        unfold Fi.val at hu
        simp only [← hn] at hu
        exact hu
      have HE : Hid (behindD D (withF s g) = ({ D1 with L := putS D1.L s ⟨b, n⟩ }, 0)) := Lib.hid (by
        rw [hf] at hg1
        simp only [Option.map_some, Fi.t, Option.some.injEq] at hg1
        rw [HY.out.1, HG.out.1, ← hg1, hn])
      have HKA := Lib.hid ka
      rw [← hn] at hl
      have cA := ha.c.1
      have HW := Lib.hid hwa
      have b0 : wa.cell? ⟨w1.heap.size, 0, none⟩ = some (.slice a n c) := by rw [hwa]; exact (BoxAt.new w1 _ _).cell rfl
      clear hp hgp hy hok h1 hg1 hf hm3 hk3 ha ka hn hz hwa
      go_upto_region 5 with fail
      rw [← HW.out]
      go_region
      go_wp2
      go_ret
      rw [HE.out]
      exact DTo.behind HD.out.2 ((DTo.behind (HKA.out.mono (fun _ _ x => x.elim)) ⟨_, rfl, HP.out⟩))
  · have q0 : (z != 0) = true := bneT hz
    have HY := Lib.hid (HX.out.2 hz)
    clear hz
    go_wp2
    go_ret
    rw [HY.out]
    exact BeganTo.to ⟨rfl, HD.out.1, HD.out.2⟩
end Go.Proofs.YtficodklidaheaaDoor
/- Layer 19: Records, Sync, Name, Len, Size. -/
namespace Go.Proofs.YtficodklidaheaaDoor
open Go.RowKit
attribute [local go_sem ↓] Go.wp_at_zero Go.wp_at_succ

theorem byV_b8 (l : List Nat) : byV l = b8 l := rfl
theorem slAt_row8 {w : World} {v : Value} {l : List Nat} (h : SlAt w v (byV l)) (hb : ∀ x ∈ l, x < 256) : Row8 w v l := by
  obtain ⟨ao, c, e, hn, hc⟩ := h.val
  rw [byV_length] at e
  refine ⟨ao, c, e, hb, fun j hj => ?_⟩
  cases ao with
  | none => have := congrArg List.length (hn rfl); rw [byV_length] at this; simp at this; rw [this] at hj; simp at hj
  | some a => exact ⟨a, rfl, hc a rfl j _ (byV_get hj)⟩
theorem row8_keptS {S : Nat → Prop} {w w' : World} {a : Option Addr} {n c : Nat} {l : List Nat} (h : Row8 w (.slice a n c) l) (k : Kept S w w') (hn : ∀ x, a = some x → ¬ S x.block) : Row8 w' (.slice a n c) l := by
  obtain ⟨ao, c', e, hb, hc⟩ := h
  injection e with e1 e2 e3
  subst e1 e2 e3
  refine ⟨a, c, rfl, hb, fun j hj => ?_⟩
  obtain ⟨x, hx, h1⟩ := hc j hj
  exact ⟨x, hx, k.cell h1 (by rw [add_block]; exact hn x hx)⟩
/-- Rows of bytes that were made between two worlds of so many blocks. -/
def GotRows (w : World) (B H : Nat) (v : Value) (Ls : List (List Nat)) : Prop :=
  ∃ ao c, v = .slice ao Ls.length c ∧ Ls.length ≤ c ∧ ∀ i, i < Ls.length → ∃ g ai ci, ao = some ⟨g, 0, none⟩ ∧ B ≤ g ∧ g < H ∧ w.cell? ⟨g, i, none⟩ = some (.slice ai (Ls.getD i []).length ci) ∧ Row8 w (.slice ai (Ls.getD i []).length ci) (Ls.getD i []) ∧ ∀ a, ai = some a → B ≤ a.block ∧ a.block < H
theorem GotRows.nil (w : World) (B H : Nat) : GotRows w B H (.slice none 0 0) [] := ⟨none, 0, rfl, Nat.le_refl _, fun i hi => absurd hi (by simp)⟩
theorem GotRows.kept {S : Nat → Prop} {w w' : World} {B H : Nat} {v : Value} {Ls : List (List Nat)} (h : GotRows w B H v Ls) (k : Kept S w w') (hS : ∀ j, B ≤ j → j < H → ¬ S j) : GotRows w' B H v Ls := by
  obtain ⟨ao, c, e, hc, hi⟩ := h
  refine ⟨ao, c, e, hc, fun i h => ?_⟩
  obtain ⟨g, ai, ci, h1, h2, h3, h4, h5, h6⟩ := hi i h
  exact ⟨g, ai, ci, h1, h2, h3, k.cell h4 (hS g h2 h3), row8_keptS h5 k (fun x hx => hS _ (h6 x hx).1 (h6 x hx).2), h6⟩
theorem GotRows.at_ {w : World} {B H : Nat} {v : Value} {Ls : List (List Nat)} (h : GotRows w B H v Ls) : RowsAt w v Ls := by
  obtain ⟨ao, c, e, _, hi⟩ := h
  refine ⟨ao, c, e, fun i h => ?_⟩
  obtain ⟨g, ai, ci, h1, _, _, h4, h5, _⟩ := hi i h
  exact ⟨_, ai, ci, h1, by rw [addr_add0]; exact h4, h5⟩
theorem GotRows.of {w : World} {B : Nat} {v : Value} {vs : List Value} {Ls : List (List Nat)} (hb : ∀ l ∈ Ls, ∀ x ∈ l, x < 256) (ho : w.ownsRow B 22 1 v vs.length vs) (hr : Rows8 w B vs Ls) : GotRows w B w.heap.size v Ls := by
  have hl := hr.length
  obtain ⟨ao, c, rfl⟩ := ownsRow_slice ho
  rw [hl]
  refine ⟨ao, c, rfl, ?_, fun i hi => ?_⟩
  · rcases ho.2 with ⟨e, h0⟩ | ⟨g, cap, cur, e, _, _, hc, _⟩
    · omega
    · injection e with _ e2 e3
      omega
  · obtain ⟨u, hu, h8⟩ := hr.at_ i hi
    obtain ⟨g, cap, hv, _, _⟩ := own_at ho (by omega)
    injection hv with h1 h2 h3
    subst h1
    have hc := ho.cells (g := g) rfl i u hu
    rw [addr_add0] at hc
    have h9 := ownsRow_lt ho (k := g) rfl
    obtain ⟨ai, ci, rfl⟩ := ownsRow_slice h8
    refine ⟨g, ai, ci, rfl, h9.2, h9.1, hc, row8_own (hb _ (by rw [List.getD_eq_getElem?_getD, List.getElem?_eq_getElem hi]; simp)) h8, fun a e => ?_⟩
    subst e
    have := ownsRow_lt h8 (k := a.block) rfl
    exact ⟨this.2, this.1⟩
theorem ScanR.lt {l : List Nat} {Ls : List (List Nat)} {u e : Nat} (h : ScanR l Ls u e) (hb : ∀ x ∈ l, x < 256) : (∀ k ∈ Ls, ∀ x ∈ k, x < 256) ∧ u ≤ l.length := by
  induction h with
  | done => exact ⟨fun k hk => (by cases hk), Nat.le_refl _⟩
  | bad l h he => exact ⟨fun k hk => (by cases hk), Nat.zero_le _⟩
  | more l Ls u e h hr ih =>
    obtain ⟨h1, h2⟩ := ih (fun x hx => hb x (List.mem_of_mem_drop hx))
    refine ⟨fun k hk => ?_, ?_⟩
    · rcases List.mem_cons.1 hk with e | e
      · rw [e]; exact fun x hx => hb x (List.mem_of_mem_drop (List.mem_of_mem_take hx))
      · exact h1 k e
    · rw [List.length_drop] at h2
      have := firstE_size l h
      omega
/-- What Records answers. -/
def RecTo (w : World) (l : List Nat) (e : Ending) (w' : World) : Prop :=
  ∃ Ls u n, ScanR l Ls u n ∧ Kept (fun _ => False) w w' ∧
    (((n = 0 ∨ n = 2) ∧ ∃ v, e = .returned (.tuple #[v, .int .i64 ((u : Nat) : Int), .int .i64 0]) ∧ GotRows w' w.heap.size w'.heap.size v Ls) ∨
     ((n ≠ 0 ∧ n ≠ 2) ∧ e = .returned (.tuple #[.slice none 0 0, .int .i64 0, .int .i64 15])))
set_option maxRecDepth 100000 in
set_option maxHeartbeats 2000000 in
theorem wRecords_any (ao : Option Addr) (c : Nat) (l : List Nat) (hl : l.length ≤ 1000000000) (hcap : l.length ≤ c) (w : World) (HB : Row8 w (.slice ao l.length c) l) (HN : Nibs w) :
    Calls Tryd.prog 21 #[.slice ao l.length c] w (RecTo w l) := by
  have HS := Lib.hid (scan_any ao c l hl hcap w HB HN)
  have HL := Lib.hid HB.lt
  obtain ⟨m, hm⟩ : ∃ m, m = l.length := ⟨_, rfl⟩
  rw [← hm] at HS ⊢
  clear hm hl hcap HB HN
  go_enter Tryd.func21, Tryd.ntmps21
  go_wp2_with fail
  refine HS.out.mono ?_
  rintro e w1 ⟨v, vs, Ls, u, n, hsc, rfl, hown, hrows, hk⟩
  have HR := Lib.hid (And.intro hsc (And.intro hk (GotRows.of (hsc.lt HL.out).1 hown hrows)))
  obtain ⟨a, c1, hv⟩ := ownsRow_slice hown
  clear hsc hown hrows hk
  obtain ⟨k, hkk⟩ : ∃ k, k = vs.length := ⟨_, rfl⟩
  rw [← hkk] at hv
  have HK : Hid (GotRows w1 w.heap.size w1.heap.size (.slice a k c1) Ls) := Lib.hid (by rw [← hv]; exact HR.out.2.2)
  subst hv
  clear hkk
  obtain ⟨z, hz⟩ : ∃ z : Int, z = ((n : Nat) : Int) := ⟨_, rfl⟩
  rw [← hz]
  by_cases h0 : n = 0
  · have HX := Lib.hid (show RecTo w l (.returned (.tuple #[.slice a k c1, .int .i64 ((u : Nat) : Int), .int .i64 0])) w1 from ⟨Ls, u, n, HR.out.1, HR.out.2.1, .inl ⟨.inl h0, _, rfl, HK.out⟩⟩)
    obtain rfl : z = 0 := by omega
    clear h0 hz
    go_wp2
    go_ret3
    exact HX.out
  · have q0 : (z == 0) = false := beq_eq_false_iff_ne.2 (by omega)
    by_cases h2 : n = 2
    · have HX := Lib.hid (show RecTo w l (.returned (.tuple #[.slice a k c1, .int .i64 ((u : Nat) : Int), .int .i64 0])) w1 from ⟨Ls, u, n, HR.out.1, HR.out.2.1, .inl ⟨.inr h2, _, rfl, HK.out⟩⟩)
      obtain rfl : z = 2 := by omega
      clear h0 h2 hz q0
      go_wp2
      go_ret3
      exact HX.out
    · have q2 : (z == 2) = false := beq_eq_false_iff_ne.2 (by omega)
      have q1 : (z != 0) = true := by simp [bne, q0]
      have q3 : (z != 2) = true := by simp [bne, q2]
      clear q0 q2
      have HX := Lib.hid (show RecTo w l (.returned (.tuple #[.slice none 0 0, .int .i64 0, .int .i64 15])) w1 from ⟨Ls, u, n, HR.out.1, HR.out.2.1, .inr ⟨⟨h0, h2⟩, rfl⟩⟩)
      clear h0 h2 hz
      go_wp2
      go_ret3
      exact HX.out
/-- A log in memory. -/
def LogAt (w : World) (lb db : Nat) (s : ByteArray) (n size : Int) : Prop := BoxAt w lb 117 #[.pointer (some ⟨db, 0, none⟩), .string s, .int .i64 n, .int .i64 size]
theorem DTo.pre {base : Nat} {w w1 : World} {db mb : Nat} {L : List (ByteArray × Fi)} {r : DA × Int} {e : Ending} {w' : World} (k : Kept (fun _ => False) w w1) (h : DTo base w1 db mb L r e w') : DTo base w db mb L r e w' := by
  obtain ⟨L', h1, h2, h3, h4⟩ := h
  exact ⟨L', h1, h2, (k.mono (fun _ _ x => x.elim)).trans h3, fun j x => (h4 j x).imp id (Nat.le_trans k.size)⟩
set_option maxRecDepth 100000 in
set_option maxHeartbeats 2000000 in
theorem wSync_any (base db mb lb : Nat) (L : List (ByteArray × Fi)) (D : DA) (s : ByteArray) (hs : s.size ≤ maxLen) (n size : Int) (w : World) (h : DK base w db mb L D) (hl : LogAt w lb db s n size) :
    Calls Tryd.prog 32 #[.pointer (some ⟨lb, 0, none⟩)] w (DTo base w db mb L (syncD D s)) := by
  have kd : Kept (fun _ => False) w w.drew := (Kept.refl _ _).drew
  have c0 := (hl.kept kd (fun x => x)).cell (i := 0) (u := .pointer (some ⟨db, 0, none⟩)) rfl
  have c1 := (hl.kept kd (fun x => x)).cell (i := 1) (u := .string s) rfl
  have HS := Lib.hid ((dSync_any base db mb L D s hs w.drew (h.kept kd (fun _ _ x => x))).mono (fun e w' => DTo.pre kd))
  clear h hl kd
  go_enter Tryd.func32, Tryd.ntmps32
  go_wp2
  go_region_with (go_at_call 47; refine HS.out.mono ?_; rintro e w1 ⟨L', rfl, h1⟩; have H1 := Lib.hid h1; clear h1)
  all_goals (
    go_wp2
    go_ret
    exact ⟨L', rfl, H1.out⟩)
theorem wLen_any (db lb : Nat) (s : ByteArray) (n size : Int) (w : World) (hl : LogAt w lb db s n size) :
    Calls Tryd.prog 26 #[.pointer (some ⟨lb, 0, none⟩)] w fun e w' => e = .returned (.int .i64 n) ∧ w = w' := by
  have c0 := hl.cell (i := 2) (u := .int .i64 n) rfl
  clear hl
  go_enter Tryd.func26, Tryd.ntmps26
  go_wp2
  go_ret
  exact ⟨rfl, rfl⟩
theorem wSize_any (db lb : Nat) (s : ByteArray) (n size : Int) (w : World) (hl : LogAt w lb db s n size) :
    Calls Tryd.prog 27 #[.pointer (some ⟨lb, 0, none⟩)] w fun e w' => e = .returned (.int .i64 size) ∧ w = w' := by
  have c0 := hl.cell (i := 3) (u := .int .i64 size) rfl
  clear hl
  go_enter Tryd.func27, Tryd.ntmps27
  go_wp2
  go_ret
  exact ⟨rfl, rfl⟩
theorem wName_any (db lb : Nat) (s : ByteArray) (n size : Int) (w : World) (hl : LogAt w lb db s n size) :
    Calls Tryd.prog 28 #[.pointer (some ⟨lb, 0, none⟩)] w fun e w' => e = .returned (.string s) ∧ w = w' := by
  have c0 := hl.cell (i := 1) (u := .string s) rfl
  clear hl
  go_enter Tryd.func28, Tryd.ntmps28
  go_wp2
  go_ret
  exact ⟨rfl, rfl⟩
end Go.Proofs.YtficodklidaheaaDoor
