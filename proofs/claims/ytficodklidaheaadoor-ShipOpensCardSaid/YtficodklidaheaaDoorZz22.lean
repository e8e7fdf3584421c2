/- Texts put together: SG, SHr. -/
import Derived.Test.YtficodklidaheaaDoorZz21
import Derived.Test.YtficodklidaheaaDoorZz10
import Derived.Deep.RegionWith
import Derived.Test.YtficodklidaheaaDoorZz12
import Derived.Test.YtficodklidaheaaDoorZz14
/- Layer 18: conversions; the document's Create, Append, Sync, Cut, Rename, Remove (written by tools/gen_XSG.py). -/
namespace Go.Proofs.YtficodklidaheaaDoor
open Go.RowKit
attribute [local go_sem ↓] Go.wp_at_zero Go.wp_at_succ

theorem strL_data (l : List Nat) : (strL l).data.toList = l.map UInt8.ofNat := by
  have := strL_list l
  rwa [ByteArray.toList_eq] at this
theorem strL_size (l : List Nat) : (strL l).size = l.length := by
  have := congrArg List.length (strL_list l)
  rw [toList_size, List.length_map] at this
  exact this
theorem strL_app (a b : List Nat) : strL (a ++ b) = strL a ++ strL b := by
  apply bl_inj
  have h : ∀ l : List Nat, bl (strL l) = l.map fun n => (UInt8.ofNat n).toNat := fun l => by unfold bl; rw [strL_list, List.map_map]; rfl
  rw [bl_append, h, h, h, List.map_append]
theorem bytes_run (w : World) (s : ByteArray) : (convert 9 22 (.string s)).run Tryd.prog w = .ok (.slice (some ⟨w.heap.size, 0, none⟩) s.size (grownCap w s.size 0 5)) (Lib.bytesWorld w 5 s) :=
  Lib.run_convert_string_bytes (P := Tryd.prog) w 9 22 5 s Tryd.underlying9 Tryd.underlying22 Tryd.underlying5
theorem bytes_kept (w : World) (s : ByteArray) : Kept (fun _ => False) w (Lib.bytesWorld w 5 s) :=
  ⟨rfl, rfl, rfl, by rw [Lib.bytesWorld_size]; omega, fun j hj _ => Lib.bytesWorld_at_old w _ s j hj⟩
theorem bytes_at (w : World) (s : ByteArray) (c : Nat) : SlAt (Lib.bytesWorld w 5 s) (.slice (some ⟨w.heap.size, 0, none⟩) s.size c) (byV (bl s)) := by
  refine ⟨some ⟨w.heap.size, 0, none⟩, c, by rw [byV_length, bl_length], fun e => (by cases e), ?_⟩
  intro a ha j u hu
  cases ha
  have hj : j < s.size := by have := (List.getElem?_eq_some_iff.1 hu).1; rwa [byV_length, bl_length] at this
  rw [byV_get (by rw [bl_length]; exact hj), bl_getD] at hu
  injection hu with hu
  subst hu
  rw [addr_add0, Lib.bytesWorld_cell w _ _ j hj]
  unfold chr
  rw [ByteArray.toList_eq]
theorem strL_add {P : Program} (w : World) (a b : List Nat) (h : a.length + b.length ≤ 1000000000000) : (Op.stringOp .add (strL a) (strL b)).run P w = .ok (.string (strL (a ++ b))) w := by
  rw [run_string_add_sum w _ _ (by rw [strL_size, strL_size]; omega), ← strL_app]
theorem PutTo.to {w0 w : World} {rb : Nat} {ao : Option Addr} {L : List RF} {f : RF} {D' : DA} {e : Ending} {w' : World} (h : PutTo w rb ao L f D' e w') (hk : Kept (fun k => k = rb) w0 w) (hf : ∀ k, f.b ≠ [] → f.v.ownBlock = some k → rfoot rb ao L k ∨ w0.heap.size ≤ k) (z : Int) : RTo w0 rb ao L (D', z) (.returned (.int .i64 z)) w' := by
  obtain ⟨_, ao', cp', L', h1, h2, h3⟩ := h
  refine ⟨ao', cp', L', rfl, h1, hk.trans h2, fun k e => ?_⟩
  rcases h3 k e with x | ⟨x, y⟩ | x
  · exact .inl x
  · exact hf k x y
  · exact .inr (Nat.le_trans hk.size x)
theorem RK.footData {L : List RF} {rb : Nat} {ao : Option Addr} {f : RF} (hf : f ∈ L) {k : Nat} (h0 : f.b ≠ []) (h1 : f.v.ownBlock = some k) : rfoot rb ao L k := .inr (.inr ⟨f, hf, h0, h1⟩)

set_option maxRecDepth 100000 in
set_option maxHeartbeats 4000000 in
theorem refCreate_any (rb : Nat) (ao : Option Addr) (cp : Nat) (L : List RF) (D : DA) (s : ByteArray) (hs : s.size ≤ maxLen) (w : World) (h : RK w rb ao cp L D) :
    Calls Tryd.prog 99 #[.pointer (some ⟨rb, 0, none⟩), .string s] w (RTo w rb ao L (createD D s)) := by
  have HC := Lib.hid (refBegin_any rb ao cp L D w h)
  have HX := Lib.hid (And.intro (fun e : (beginD D).2 ≠ 0 => (show createD D s = beginD D from behindD_ne e)) (fun e : (beginD D).2 = 0 => (show createD D s = (createF s) (beginD D).1 from behindD_eq e)))
  have HOK := Lib.hid (createD_ok h.ok s)
  obtain ⟨r, hr⟩ : ∃ r, r = beginD D := ⟨_, rfl⟩
  rw [← hr] at HC HX
  obtain ⟨D1, z⟩ := r
  have HN := Lib.hid (fun w => refName_any s w (by unfold maxLen at hs; omega))
  clear hr h hs
  go_enter Tryd.func99, Tryd.ntmps99
  go_wp2_with fail
  refine HC.out.mono ?_
  rintro e w1 ⟨rfl, h1, hk1⟩
  have HD := Lib.hid (And.intro h1 hk1)
  clear h1 hk1
  by_cases hz : z = 0
  · have q0 : (z != 0) = false := bneF hz
    have HY := Lib.hid (HX.out.2 hz)
    subst hz
    cases hn : nameB s with
    | false =>
      have HE := Lib.hid (show createF s D1 = (D1, 3) by unfold createF; rw [if_pos hn])
      rw [hn] at HN
      clear hn
      go_wp2_with fail
      refine (HN.out _).mono ?_
      rintro e w2 ⟨rfl, rfl⟩
      go_wp2
      go_ret
      rw [HY.out, HE.out]
      exact RBegan.to ⟨rfl, HD.out.1, HD.out.2⟩
    | true =>
      rw [hn] at HN
      have HNB := Lib.hid hn
      clear hn
      have HFD := Lib.hid (refFind_any rb ao cp L D1 s w1 HD.out.1)
      have c0 := HD.out.1.c.1
      obtain ⟨n, hn⟩ : ∃ n, n = L.length := ⟨_, rfl⟩
      rw [← hn] at c0
      have HNL := Lib.hid (show n = L.length ∧ n ≤ 4096 from ⟨hn, by have := HD.out.1.ok.count; have := HD.out.1.len; omega⟩)
      clear hn
      go_wp2_with fail
      refine (HN.out _).mono ?_
      rintro e w2 ⟨rfl, rfl⟩
      go_wp2_with fail
      refine HFD.out.mono ?_
      rintro e w2 ⟨z, rfl, hzz, rfl⟩
      rcases hzz.get HD.out.1 with ⟨rfl, hg⟩ | ⟨i, f, rfl, hf, hnm, hg⟩
      · have hg' : (getM D1.L s).isSome = false := by rw [hg]; rfl
        by_cases hm : n = 4096
        · have HE := Lib.hid (show createF s D1 = (D1, 6) by unfold createF; rw [if_neg (by rw [HNB.out]; decide), if_neg (by rw [hg']; decide), if_pos (by have := HNL.out.1; have := HD.out.1.len; omega)])
          have q1 : ((n : Int) == 4096) = true := beqT (by omega)
          have q2 : (n == 4096) = true := by simp [hm]
          clear hg hzz hg' hm
          go_wp2
          go_ret
          rw [HY.out, HE.out]
          exact RBegan.to ⟨rfl, HD.out.1, HD.out.2⟩
        · have HE := Lib.hid (show createF s D1 = ({ D1 with L := putS D1.L s ⟨[], 0⟩ }, 0) by unfold createF; rw [if_neg (by rw [HNB.out]; decide), if_neg (by rw [hg']; decide), if_neg (by have := HNL.out; have := HD.out.1.len; omega)])
          have HP := Lib.hid (refPut_any rb ao cp L D1 s none 0 0 [] 0 rfl w1 HD.out.1 (SlAt.ofOwn (World.ownsRow_nil w1 0 5 1)) (Nat.le_refl _) (by have := HOK.out; rw [HY.out, HE.out] at this; exact this))
          have q1 : ((n : Int) == 4096) = false := beqF (by omega)
          have q2 : (n == 4096) = false := by simp [hm]
          clear hg hzz hg' hm
          go_wp2_with fail
          refine HP.out.mono ?_
          rintro e w3 hx
          obtain ⟨he, _⟩ := id hx
          have HR := Lib.hid (hx.to HD.out.2 (fun k h0 _ => absurd rfl h0) 0)
          subst he
          clear hx
          go_wp2
          go_ret
          rw [HY.out, HE.out]
          exact HR.out
      · have HE := Lib.hid (show createF s D1 = (D1, 8) by unfold createF; rw [if_neg (by rw [HNB.out]; decide), if_pos (by rw [hg]; rfl)])
        have hin' : (0 : Int) ≤ (i : Int) := by omega
        clear hf hnm hg hzz
        go_wp2
        go_ret
        rw [HY.out, HE.out]
        exact RBegan.to ⟨rfl, HD.out.1, HD.out.2⟩
  · have q0 : (z != 0) = true := bneT hz
    have HY := Lib.hid (HX.out.1 hz)
    clear hz
    go_wp2
    go_ret
    rw [HY.out]
    exact RBegan.to ⟨rfl, HD.out.1, HD.out.2⟩

set_option maxRecDepth 100000 in
set_option maxHeartbeats 4000000 in
theorem refSync_any (rb : Nat) (ao : Option Addr) (cp : Nat) (L : List RF) (D : DA) (s : ByteArray) (w : World) (h : RK w rb ao cp L D) :
    Calls Tryd.prog 101 #[.pointer (some ⟨rb, 0, none⟩), .string s] w (RTo w rb ao L (syncD D s)) := by
  have HC := Lib.hid (refBegin_any rb ao cp L D w h)
  have HX := Lib.hid (And.intro (fun e : (beginD D).2 ≠ 0 => (show syncD D s = beginD D from behindD_ne e)) (fun e : (beginD D).2 = 0 => (show syncD D s = (withF s fun f D => ({ D with L := putS D.L s ⟨f.b, f.b.length⟩ }, 0)) (beginD D).1 from behindD_eq e)))
  have HOK := Lib.hid (syncD_ok h.ok s)
  obtain ⟨r, hr⟩ : ∃ r, r = beginD D := ⟨_, rfl⟩
  rw [← hr] at HC HX
  obtain ⟨D1, z⟩ := r
  clear hr h
  go_enter Tryd.func101, Tryd.ntmps101
  go_wp2_with fail
  refine HC.out.mono ?_
  rintro e w1 ⟨rfl, h1, hk1⟩
  have HD := Lib.hid (And.intro h1 hk1)
  clear h1 hk1
  by_cases hz : z = 0
  · have q0 : (z != 0) = false := bneF hz
    have HY := Lib.hid (HX.out.2 hz)
    subst hz
    have HFD := Lib.hid (refFind_any rb ao cp L D1 s w1 HD.out.1)
    have c0 := HD.out.1.c.1
    obtain ⟨n, hn⟩ : ∃ n, n = L.length := ⟨_, rfl⟩
    rw [← hn] at c0
    have HNL := Lib.hid (show n = L.length ∧ n ≤ 4096 from ⟨hn, by have := HD.out.1.ok.count; have := HD.out.1.len; omega⟩)
    clear hn
    go_wp2_with fail
    refine HFD.out.mono ?_
    rintro e w2 ⟨z, rfl, hzz, rfl⟩
    rcases hzz.get HD.out.1 with ⟨rfl, hg⟩ | ⟨i, f, rfl, hf, hnm, hg⟩
    · have HE := Lib.hid (show (withF s fun f D => ({ D with L := putS D.L s ⟨f.b, f.b.length⟩ }, 0)) D1 = (D1, 7) from by
        show withF s _ D1 = _
        unfold withF
        rw [hg])
      clear hg hzz
      go_wp2
      go_ret
      rw [HY.out, HE.out]
      exact RBegan.to ⟨rfl, HD.out.1, HD.out.2⟩
    · obtain ⟨gg, oo, hga, hgc⟩ := HD.out.1.row (by have := (List.getElem?_eq_some_iff.1 hf).1; omega)
      subst hga
      have hil : i < n := by rw [HNL.out.1]; exact (List.getElem?_eq_some_iff.1 hf).1
      have hin : (i : Int) < (n : Int) := by omega
      have hi0 : (0 : Int) ≤ (i : Int) := by omega
      have hin' : ¬ (i : Int) < 0 := by omega
      have g0 := hgc i f hf 0 (.string f.nm) rfl
      have g1 := hgc i f hf 1 (.slice f.a f.b.length f.c) rfl
      have g2 := hgc i f hf 2 (.int .i64 (f.s : Int)) rfl
      rw [Nat.add_zero] at g0
      have hfm := List.mem_of_getElem? hf
      have hdt := HD.out.1.data f hfm
      have hsm : f.b.length ≤ 4194304 := by
        have h3 := usedL_del HD.out.1.ok.asc.pair s
        rw [hg] at h3
        simp only [szM] at h3
        have := HD.out.1.ok.used
        have := HD.out.1.ok.capR
        omega
      obtain ⟨fnm, fa, fc, fb, fs⟩ := f
      simp only at hnm hg hsm g0 g1 g2
      unfold RF.v at hdt
      simp only at hdt
      obtain ⟨fn, hfn⟩ : ∃ fn, fn = fb.length := ⟨_, rfl⟩
      rw [← hfn] at hdt g1 hsm
      have HFN := Lib.hid (And.intro hfn (And.intro hfm hnm))
      obtain ⟨q, hq⟩ : ∃ q, q = w1.heap.size := ⟨_, rfl⟩
      obtain ⟨wa, hwa⟩ : ∃ wa, wa = w1.alloc (.cells #[.string fnm, .slice fa fn fc, .int .i64 (fs : Int)] 125) := ⟨_, rfl⟩
      have ka : Kept (fun _ => False) w1 wa := by rw [hwa]; exact (Kept.refl _ _).alloc _
      have BA : BoxAt wa q 125 #[.string fnm, .slice fa fn fc, .int .i64 (fs : Int)] := by rw [hwa, hq]; exact BoxAt.new w1 _ _
      have HA := Lib.hid (And.intro (HD.out.1.kept ka (fun _ _ x => x)) (And.intro ka (And.intro BA (And.intro (hdt.1.kept ka (fun _ _ x => x)) hdt.2))))
      have HW := Lib.hid (And.intro hwa hq)
      have HG := Lib.hid hg
      have qA0 : wa.cell? ⟨q, 0, none⟩ = some (.string fnm) := BA.cell rfl
      have qA1 : wa.cell? ⟨q, 1, none⟩ = some (.slice fa fn fc) := BA.cell rfl
      have qA2 : wa.cell? ⟨q, 2, none⟩ = some (.int .i64 (fs : Int)) := BA.cell rfl
      clear hf hgc hfm hdt hnm hg hfn hq hwa ka BA hzz hil

      have HE := Lib.hid (show (withF s fun f D => ({ D with L := putS D.L s ⟨f.b, f.b.length⟩ }, 0)) D1 = ({ D1 with L := putS D1.L s ⟨fb, fn⟩ }, 0) from by
        show withF s _ D1 = _
        unfold withF
        rw [HG.out, HFN.out.1])
      have HP := Lib.hid (refPut_any rb (some ⟨gg, oo, none⟩) cp L D1 s fa fc fn fb fn HFN.out.1.symm wa HA.out.1 HA.out.2.2.2.1 HA.out.2.2.2.2 (by have := HOK.out; rw [HY.out, HE.out] at this; exact this))
      go_upto_region 8 with fail
      rw [← HW.out.1, ← HW.out.2]
      go_wp2_with fail

      refine HP.out.mono ?_
      rintro e w3 hx
      obtain ⟨he, _⟩ := id hx
      have HR := Lib.hid (hx.to (HD.out.2.trans (HA.out.2.1.mono (fun _ _ x => x.elim))) (fun k h0 h1 => .inl (RK.footData (f := ⟨fnm, fa, fc, fb, fs⟩) HFN.out.2.1 h0 h1)) 0)
      subst he
      clear hx
      go_wp2
      go_ret
      rw [HY.out, HE.out]
      exact HR.out
  · have q0 : (z != 0) = true := bneT hz
    have HY := Lib.hid (HX.out.1 hz)
    clear hz
    go_wp2
    go_ret
    rw [HY.out]
    exact RBegan.to ⟨rfl, HD.out.1, HD.out.2⟩

theorem without_set {w w2 : World} {rb cp : Nat} {ao : Option Addr} {L : List RF} {D : DA} {s : ByteArray} {xa : Option Addr} {xc : Nat} (h : RK w rb ao cp L D) (hm : MineG cellsR 3 125 w w2 (.slice xa (noN L s).length xc) (noN L s)) (ok : DOk { D with L := delM D.L s }) :
    RTo w rb ao L ({ D with L := delM D.L s }, 0) (.returned (.int .i64 0)) (w2.setCell ⟨rb, 0, none⟩ (.slice xa (noN L s).length xc)) := by
  have h2 := h.kept hm.kept (fun _ _ x => x)
  have k5 := kept_set w2 rb 0 (.slice xa (noN L s).length xc)
  have hsub : ∀ f ∈ noN L s, f ∈ L := fun f hf => (List.mem_filter.1 hf).1
  have hown : ∀ a, xa = some a → w.heap.size ≤ a.block := fun a e => (ownsRow_lt hm.own (k := a.block) (by rw [e]; rfl)).2
  have hrb := h.box.lt
  refine ⟨xa, xc, noN L s, rfl, ⟨h2.box.set 0 _, (hm.at_ cfR).keptS k5 (fun a e _ x => ?_), own_cap hm.own, by rw [noN_t, h.eq], fun f hf => ⟨(h2.data f (hsub f hf)).1.keptN k5 (fun hx j e => h2.dataNe (hsub f hf) (byV_ne hx) e), (h2.data f (hsub f hf)).2⟩, ok⟩, (hm.kept.mono (fun _ _ x => x.elim)).trans k5, fun k e => ?_⟩
  · have := hown a e
    have x' : a.block = rb := x
    omega
  · rcases e with e | ⟨_, a, e, e2⟩ | ⟨f, hf, e1, e2⟩
    · exact .inl (.inl e)
    · have := hown a e
      exact .inr (by omega)
    · exact .inl (.inr (.inr ⟨f, hsub f hf, e1, e2⟩))

set_option maxRecDepth 100000 in
set_option maxHeartbeats 4000000 in
theorem refRemove_any (rb : Nat) (ao : Option Addr) (cp : Nat) (L : List RF) (D : DA) (s : ByteArray) (w : World) (h : RK w rb ao cp L D) :
    Calls Tryd.prog 79 #[.pointer (some ⟨rb, 0, none⟩), .string s] w (RTo w rb ao L (removeD D s)) := by
  have HC := Lib.hid (refBegin_any rb ao cp L D w h)
  have HX := Lib.hid (And.intro (fun e : (beginD D).2 ≠ 0 => (show removeD D s = beginD D from behindD_ne e)) (fun e : (beginD D).2 = 0 => (show removeD D s = (withF s fun _ D => ({ D with L := delM D.L s }, 0)) (beginD D).1 from behindD_eq e)))
  have HOK := Lib.hid (removeD_ok h.ok s)
  obtain ⟨r, hr⟩ : ∃ r, r = beginD D := ⟨_, rfl⟩
  rw [← hr] at HC HX
  obtain ⟨D1, z⟩ := r
  clear hr h
  go_enter Tryd.func79, Tryd.ntmps79
  go_wp2_with fail
  refine HC.out.mono ?_
  rintro e w1 ⟨rfl, h1, hk1⟩
  have HD := Lib.hid (And.intro h1 hk1)
  clear h1 hk1
  by_cases hz : z = 0
  · have q0 : (z != 0) = false := bneF hz
    have HY := Lib.hid (HX.out.2 hz)
    subst hz
    have HFD := Lib.hid (refFind_any rb ao cp L D1 s w1 HD.out.1)
    have c0 := HD.out.1.c.1
    obtain ⟨n, hn⟩ : ∃ n, n = L.length := ⟨_, rfl⟩
    rw [← hn] at c0
    have HNL := Lib.hid (show n = L.length ∧ n ≤ 4096 from ⟨hn, by have := HD.out.1.ok.count; have := HD.out.1.len; omega⟩)
    clear hn
    go_wp2_with fail
    refine HFD.out.mono ?_
    rintro e w2 ⟨z, rfl, hzz, rfl⟩
    rcases hzz.get HD.out.1 with ⟨rfl, hg⟩ | ⟨i, f, rfl, hf, hnm, hg⟩
    · have HE := Lib.hid (show (withF s fun _ D => ({ D with L := delM D.L s }, 0)) D1 = (D1, 7) from by
        show withF s _ D1 = _
        unfold withF
        rw [hg])
      clear hg hzz
      go_wp2
      go_ret
      rw [HY.out, HE.out]
      exact RBegan.to ⟨rfl, HD.out.1, HD.out.2⟩
    · have HE := Lib.hid (show (withF s fun _ D => ({ D with L := delM D.L s }, 0)) D1 = ({ D1 with L := delM D1.L s }, 0) from by
        show withF s _ D1 = _
        unfold withF
        rw [hg])
      have HWO := Lib.hid (refWithout_any rb ao cp L D1 s w1 HD.out.1)
      have hin' : ¬ (i : Int) < 0 := by omega
      clear hf hnm hg hzz
      go_wp2_with fail
      refine HWO.out.mono ?_
      rintro e w2 ⟨v, rfl, hm⟩
      obtain ⟨xa, xc, rfl⟩ := hm.slice
      have h2 := HD.out.1.kept hm.kept (fun _ _ x => x)
      have c20 := h2.c.1
      have f20 := h2.box.fz 0
      have HR := Lib.hid (without_set HD.out.1 hm (by have := HOK.out; rw [HY.out, HE.out] at this; exact this))
      clear hm h2
      go_wp2
      go_ret
      rw [HY.out, HE.out]
      exact RTo.behind HD.out.2 HR.out
  · have q0 : (z != 0) = true := bneT hz
    have HY := Lib.hid (HX.out.1 hz)
    clear hz
    go_wp2
    go_ret
    rw [HY.out]
    exact RBegan.to ⟨rfl, HD.out.1, HD.out.2⟩

set_option maxRecDepth 100000 in
set_option maxHeartbeats 4000000 in
theorem refAppend_any (rb : Nat) (ao : Option Addr) (cp : Nat) (L : List RF) (D : DA) (s : ByteArray) (a2 : Option Addr) (n2 c2 : Nat) (bs : List Nat) (hbs : bs.length = n2) (hlt : ∀ x ∈ bs, x < 256) (hl2 : n2 ≤ 100000000) (w : World) (h : RK w rb ao cp L D) (hsrc : SlAt w (.slice a2 n2 c2) (byV bs)) (hne : byV bs ≠ [] → ∀ j, (Value.slice a2 n2 c2).ownBlock = some j → j ≠ rb) :
    Calls Tryd.prog 100 #[.pointer (some ⟨rb, 0, none⟩), .string s, .slice a2 n2 c2] w (RTo w rb ao L (appendD D s bs)) := by
  have HC := Lib.hid (refBegin_any rb ao cp L D w h)
  have HX := Lib.hid (And.intro (fun e : (beginD D).2 ≠ 0 => (show appendD D s bs = beginD D from behindD_ne e)) (fun e : (beginD D).2 = 0 => (show appendD D s bs = (withF s fun f D => if D.cap - usedL D.L < (bs.length : Int) then (D, 12) else ({ D with L := putS D.L s ⟨f.b ++ bs, f.s⟩ }, 0)) (beginD D).1 from behindD_eq e)))
  have HOK := Lib.hid (appendD_ok h.ok s hlt)
  obtain ⟨r, hr⟩ : ∃ r, r = beginD D := ⟨_, rfl⟩
  rw [← hr] at HC HX
  obtain ⟨D1, z⟩ := r
  have HS := Lib.hid (And.intro hbs (And.intro hl2 (And.intro hsrc (And.intro hne hlt))))
  clear hr h hbs hlt hl2 hsrc hne
  go_enter Tryd.func100, Tryd.ntmps100
  go_wp2_with fail
  refine HC.out.mono ?_
  rintro e w1 ⟨rfl, h1, hk1⟩
  have HD := Lib.hid (And.intro h1 hk1)
  clear h1 hk1
  by_cases hz : z = 0
  · have q0 : (z != 0) = false := bneF hz
    have HY := Lib.hid (HX.out.2 hz)
    subst hz
    have HFD := Lib.hid (refFind_any rb ao cp L D1 s w1 HD.out.1)
    have c0 := HD.out.1.c.1
    obtain ⟨n, hn⟩ : ∃ n, n = L.length := ⟨_, rfl⟩
    rw [← hn] at c0
    have HNL := Lib.hid (show n = L.length ∧ n ≤ 4096 from ⟨hn, by have := HD.out.1.ok.count; have := HD.out.1.len; omega⟩)
    clear hn
    go_wp2_with fail
    refine HFD.out.mono ?_
    rintro e w2 ⟨z, rfl, hzz, rfl⟩
    rcases hzz.get HD.out.1 with ⟨rfl, hg⟩ | ⟨i, f, rfl, hf, hnm, hg⟩
    · have HE := Lib.hid (show (withF s fun f D => if D.cap - usedL D.L < (bs.length : Int) then (D, 12) else ({ D with L := putS D.L s ⟨f.b ++ bs, f.s⟩ }, 0)) D1 = (D1, 7) from by
        show withF s _ D1 = _
        unfold withF
        rw [hg])
      clear hg hzz
      go_wp2
      go_ret
      rw [HY.out, HE.out]
      exact RBegan.to ⟨rfl, HD.out.1, HD.out.2⟩
    · obtain ⟨gg, oo, hga, hgc⟩ := HD.out.1.row (by have := (List.getElem?_eq_some_iff.1 hf).1; omega)
      subst hga
      have hil : i < n := by rw [HNL.out.1]; exact (List.getElem?_eq_some_iff.1 hf).1
      have hin : (i : Int) < (n : Int) := by omega
      have hi0 : (0 : Int) ≤ (i : Int) := by omega
      have hin' : ¬ (i : Int) < 0 := by omega
      have g0 := hgc i f hf 0 (.string f.nm) rfl
      have g1 := hgc i f hf 1 (.slice f.a f.b.length f.c) rfl
      have g2 := hgc i f hf 2 (.int .i64 (f.s : Int)) rfl
      rw [Nat.add_zero] at g0
      have hfm := List.mem_of_getElem? hf
      have hdt := HD.out.1.data f hfm
      have hsm : f.b.length ≤ 4194304 := by
        have h3 := usedL_del HD.out.1.ok.asc.pair s
        rw [hg] at h3
        simp only [szM] at h3
        have := HD.out.1.ok.used
        have := HD.out.1.ok.capR
        omega
      obtain ⟨fnm, fa, fc, fb, fs⟩ := f
      simp only at hnm hg hsm g0 g1 g2
      unfold RF.v at hdt
      simp only at hdt
      obtain ⟨fn, hfn⟩ : ∃ fn, fn = fb.length := ⟨_, rfl⟩
      rw [← hfn] at hdt g1 hsm
      have HFN := Lib.hid (And.intro hfn (And.intro hfm hnm))
      obtain ⟨q, hq⟩ : ∃ q, q = w1.heap.size := ⟨_, rfl⟩
      obtain ⟨wa, hwa⟩ : ∃ wa, wa = w1.alloc (.cells #[.string fnm, .slice fa fn fc, .int .i64 (fs : Int)] 125) := ⟨_, rfl⟩
      have ka : Kept (fun _ => False) w1 wa := by rw [hwa]; exact (Kept.refl _ _).alloc _
      have BA : BoxAt wa q 125 #[.string fnm, .slice fa fn fc, .int .i64 (fs : Int)] := by rw [hwa, hq]; exact BoxAt.new w1 _ _
      have HA := Lib.hid (And.intro (HD.out.1.kept ka (fun _ _ x => x)) (And.intro ka (And.intro BA (And.intro (hdt.1.kept ka (fun _ _ x => x)) hdt.2))))
      have HW := Lib.hid (And.intro hwa hq)
      have HG := Lib.hid hg
      have qA0 : wa.cell? ⟨q, 0, none⟩ = some (.string fnm) := BA.cell rfl
      have qA1 : wa.cell? ⟨q, 1, none⟩ = some (.slice fa fn fc) := BA.cell rfl
      have qA2 : wa.cell? ⟨q, 2, none⟩ = some (.int .i64 (fs : Int)) := BA.cell rfl
      clear hf hgc hfm hdt hnm hg hfn hq hwa ka BA hzz hil

      have HUS := Lib.hid (refUsed_any rb (some ⟨gg, oo, none⟩) cp L D1 w1.drew (HD.out.1.kept ((Kept.refl (fun _ => False) _).drew) (fun _ _ x => x)))
      obtain ⟨u, hu⟩ : ∃ u, u = usedL D1.L := ⟨_, rfl⟩
      obtain ⟨cc, hcc⟩ : ∃ cc, cc = D1.cap := ⟨_, rfl⟩
      have cC := HD.out.1.c.2.1
      rw [← hcc] at cC
      rw [← hu] at HUS
      have hcap := HD.out.1.ok.capR
      have hus := HD.out.1.ok.used
      rw [← hcc] at hcap hus
      rw [← hu] at hus
      have hn9 := HS.out.2.1
      have HU := Lib.hid (And.intro hu hcc)
      have wsub : IntKind.i64.wrap (cc - (u : Int)) = cc - (u : Int) := IntWalk.i64_in _ ⟨by omega, by omega⟩
      clear hu hcc
      by_cases hsp : cc - (u : Int) < (n2 : Int)
      · have hsp' : decide (cc - (u : Int) < (n2 : Int)) = true := decide_eq_true hsp
        have HE := Lib.hid (show (withF s fun f D => if D.cap - usedL D.L < (bs.length : Int) then (D, 12) else ({ D with L := putS D.L s ⟨f.b ++ bs, f.s⟩ }, 0)) D1 = (D1, 12) from by
          show withF s _ D1 = _
          unfold withF
          rw [HG.out]
          show (if D1.cap - usedL D1.L < (bs.length : Int) then _ else _) = _
          rw [if_pos (by have := HU.out; have := HS.out.1; omega)])
        go_upto_region 7 with fail
        go_region_with (go_at_call 74; refine HUS.out.mono ?_; rintro e w9 ⟨rfl, rfl⟩)
        all_goals (
          go_wp2
          go_ret
          rw [HY.out, HE.out]
          exact RBegan.to ⟨rfl, HD.out.1.kept ((Kept.refl (fun _ => False) _).drew) (fun _ _ x => x), HD.out.2.drew⟩)
      · have hsp' : decide (cc - (u : Int) < (n2 : Int)) = false := decide_eq_false hsp
        have HE := Lib.hid (show (withF s fun f D => if D.cap - usedL D.L < (bs.length : Int) then (D, 12) else ({ D with L := putS D.L s ⟨f.b ++ bs, f.s⟩ }, 0)) D1 = ({ D1 with L := putS D1.L s ⟨fb ++ bs, fs⟩ }, 0) from by
          show withF s _ D1 = _
          unfold withF
          rw [HG.out]
          show (if D1.cap - usedL D1.L < (bs.length : Int) then _ else _) = _
          rw [if_neg (by have := HU.out; have := HS.out.1; omega)])
        obtain ⟨wd, hwd⟩ : ∃ wd, wd = w1.drew := ⟨_, rfl⟩
        obtain ⟨wb, hwb⟩ : ∃ wb, wb = wd.alloc (.cells #[.string fnm, .slice fa fn fc, .int .i64 (fs : Int)] 125) := ⟨_, rfl⟩
        have hwdq : q = wd.heap.size := by rw [hwd, HW.out.2]; rfl
        have kb : Kept (fun _ => False) w1 wb := by rw [hwb, hwd]; exact ((Kept.refl _ _).drew).alloc _
        have BB : BoxAt wb q 125 #[.string fnm, .slice fa fn fc, .int .i64 (fs : Int)] := by rw [hwb, hwdq]; exact BoxAt.new wd _ _
        have qB1 : wb.cell? ⟨q, 1, none⟩ = some (.slice fa fn fc) := BB.cell rfl
        have qB2 : wb.cell? ⟨q, 2, none⟩ = some (.int .i64 (fs : Int)) := BB.cell rfl
        have hdb := HD.out.1.kept kb (fun _ _ x => x)
        have hsrcb : SlAt wb (.slice a2 n2 c2) (byV bs) := HS.out.2.2.1.keptN (HD.out.2.trans (kb.mono (fun _ _ x => x.elim))) (fun h0 j e x => HS.out.2.2.2.1 h0 j e x)
        have hfd := (HD.out.1.data _ HFN.out.2.1).1.kept kb (fun _ _ x => x)
        have hfdc := (HD.out.1.data _ HFN.out.2.1).2
        unfold RF.v at hfd
        simp only at hfd hfdc
        rw [← HFN.out.1] at hfd
        have cv1 := fun w' (k : Kept (fun _ => False) wb w') => run_strL (P := Tryd.prog) (hfd.kept k (fun _ _ x => x)) 22 5 9 Tryd.underlying22 Tryd.underlying5 Tryd.underlying9
        have cv2 := fun w' (k : Kept (fun _ => False) wb w') => run_strL (P := Tryd.prog) (hsrcb.kept k (fun _ _ x => x)) 22 5 9 Tryd.underlying22 Tryd.underlying5 Tryd.underlying9
        have cw1 := cv1 wb (Kept.refl _ _)
        have cw2 := cv2 wb (Kept.refl _ _)
        have sad := fun w => strL_add (P := Tryd.prog) w fb bs (by have := HFN.out.1; have := HS.out.1; omega)
        obtain ⟨T, hT⟩ : ∃ T, T = strL (fb ++ bs) := ⟨_, rfl⟩
        have hTb : bl T = fb ++ bs := by
          rw [hT]
          refine bl_strL (fun x hx => ?_)
          rcases List.mem_append.1 hx with e | e
          · exact HD.out.1.ok.byte _ (getM_mem HG.out) x e
          · exact HS.out.2.2.2.2 x e
        rw [← hT] at sad
        have cw3 := bytes_run wb T
        obtain ⟨wc, hwc⟩ : ∃ wc, wc = Lib.bytesWorld wb 5 T := ⟨_, rfl⟩
        obtain ⟨qc, hqc⟩ : ∃ qc, qc = wb.heap.size := ⟨_, rfl⟩
        obtain ⟨gc, hgc⟩ : ∃ gc, gc = grownCap wb T.size 0 5 := ⟨_, rfl⟩
        have hat := bytes_at wb T (grownCap wb T.size 0 5)
        have hge := grownCap_ge wb T.size 0 5
        have hTs : T.size = fn + n2 := by rw [hT, strL_size, List.length_append, HFN.out.1, HS.out.1]
        have kc : Kept (fun _ => False) wb wc := by rw [hwc]; exact bytes_kept wb T
        rw [hTs] at cw3 hat hge hgc
        obtain ⟨N, hN⟩ : ∃ N, N = fn + n2 := ⟨_, rfl⟩
        rw [← hN] at cw3 hat hge hgc
        rw [← hwc, ← hqc, ← hgc] at cw3 hat
        rw [← hgc] at hge
        rw [hTb] at hat
        have qC2 : wc.cell? ⟨q, 2, none⟩ = some (.int .i64 (fs : Int)) := (BB.kept kc (fun x => x)).cell rfl
        have HP := Lib.hid (refPut_any rb (some ⟨gg, oo, none⟩) cp L D1 s (some ⟨qc, 0, none⟩) gc N (fb ++ bs) fs (by rw [List.length_append, hN, HFN.out.1, HS.out.1]) wc (hdb.kept kc (fun _ _ x => x)) hat hge (by have := HOK.out; rw [HY.out, HE.out] at this; exact this))
        have g0d := ((Kept.refl (fun _ => False) w1).drew).cell g0 (fun x => x)
        have g1d := ((Kept.refl (fun _ => False) w1).drew).cell g1 (fun x => x)
        have g2d := ((Kept.refl (fun _ => False) w1).drew).cell g2 (fun x => x)
        have c0d := ((Kept.refl (fun _ => False) w1).drew).cell c0 (fun x => x)
        rw [← hwd] at g0d g1d g2d c0d
        have HQC := Lib.hid (And.intro (kb.trans kc) (And.intro hqc kb))
        have HWB := Lib.hid (And.intro hwb (And.intro hwdq hwd))
        clear hwd hwb hwdq kb BB hdb hsrcb hfd hfdc cv1 cv2 hT hTb hwc hqc hgc hat hge hTs kc hN
        go_upto_region 7 with fail
        go_region_with (go_at_call 74; refine HUS.out.mono ?_; rintro e w9 ⟨rfl, rfl⟩)
        all_goals (
          rw [← HWB.out.2.2]
          go_upto_region 10 with fail
          rw [← HWB.out.1, ← HWB.out.2.1]
          go_wp2_with fail
          refine HP.out.mono ?_
          rintro e w3 hx
          obtain ⟨he, _⟩ := id hx
          have HR := Lib.hid (hx.to (HD.out.2.trans (HQC.out.1.mono (fun _ _ x => x.elim))) (fun k h0 h1 => .inr (by have e : some qc = some k := h1; injection e with e; have := HQC.out.2.2.size; have := HD.out.2.size; have := HQC.out.2.1; omega)) 0)
          subst he
          clear hx
          go_wp2
          go_ret
          rw [HY.out, HE.out]
          exact HR.out)
  · have q0 : (z != 0) = true := bneT hz
    have HY := Lib.hid (HX.out.1 hz)
    clear hz
    go_wp2
    go_ret
    rw [HY.out]
    exact RBegan.to ⟨rfl, HD.out.1, HD.out.2⟩
end Go.Proofs.YtficodklidaheaaDoor
/- Layer 18: the document's Rename (written by tools/gen_XSH.py). -/
namespace Go.Proofs.YtficodklidaheaaDoor
open Go.RowKit
attribute [local go_sem ↓] Go.wp_at_zero Go.wp_at_succ

theorem RTo.after {w w3 : World} {rb : Nat} {ao ao' : Option Addr} {L L' : List RF} {r : DA × Int} {e : Ending} {w' : World} (k : Kept (fun k => k = rb) w w3) (hf : RFoot w rb ao L ao' L') (h : RTo w3 rb ao' L' r e w') : RTo w rb ao L r e w' := by
  obtain ⟨a2, c2, L2, h1, h2, h3, h4⟩ := h
  refine ⟨a2, c2, L2, h1, h2, k.trans h3, fun j e => ?_⟩
  rcases h4 j e with x | x
  · exact hf j x
  · exact .inr (Nat.le_trans k.size x)

set_option maxRecDepth 100000 in
set_option maxHeartbeats 4000000 in
theorem refRename_any (rb : Nat) (ao : Option Addr) (cp : Nat) (L : List RF) (D : DA) (s c : ByteArray) (hc : c.size ≤ maxLen) (w : World) (h : RK w rb ao cp L D) :
    Calls Tryd.prog 102 #[.pointer (some ⟨rb, 0, none⟩), .string s, .string c] w (RTo w rb ao L (renameD D s c)) := by
  have HC := Lib.hid (refBegin_any rb ao cp L D w h)
  have HX := Lib.hid (And.intro (fun e : (beginD D).2 ≠ 0 => (show renameD D s c = beginD D from behindD_ne e)) (fun e : (beginD D).2 = 0 => (show renameD D s c = (fun D => if nameB c = false then (D, 3) else withF s (fun f D => ({ D with L := putS (delM D.L s) c f }, 0)) D) (beginD D).1 from behindD_eq e)))
  have HOK := Lib.hid (renameD_ok h.ok s c)
  obtain ⟨r, hr⟩ : ∃ r, r = beginD D := ⟨_, rfl⟩
  rw [← hr] at HC HX
  obtain ⟨D1, z⟩ := r
  have HN := Lib.hid (fun w => refName_any c w (by unfold maxLen at hc; omega))
  clear hr h hc
  go_enter Tryd.func102, Tryd.ntmps102
  go_wp2_with fail
  refine HC.out.mono ?_
  rintro e w1 ⟨rfl, h1, hk1⟩
  have HD := Lib.hid (And.intro h1 hk1)
  clear h1 hk1
  by_cases hz : z = 0
  · have q0 : (z != 0) = false := bneF hz
    have HY := Lib.hid (HX.out.2 hz)
    subst hz
    cases hnb : nameB c with
    | false =>
      have HE := Lib.hid (show (fun D => if nameB c = false then (D, 3) else withF s (fun f D => ({ D with L := putS (delM D.L s) c f }, 0)) D) D1 = (D1, 3) from by show (if nameB c = false then _ else _) = _; rw [if_pos hnb])
      rw [hnb] at HN
      clear hnb
      go_wp2_with fail
      refine (HN.out _).mono ?_
      rintro e w2 ⟨rfl, rfl⟩
      go_wp2
      go_ret
      rw [HY.out, HE.out]
      exact RBegan.to ⟨rfl, HD.out.1, HD.out.2⟩
    | true =>
      rw [hnb] at HN
      have HNB := Lib.hid hnb
      clear hnb
      have HFD := Lib.hid (refFind_any rb ao cp L D1 s w1 HD.out.1)
      have c0 := HD.out.1.c.1
      obtain ⟨n, hn⟩ : ∃ n, n = L.length := ⟨_, rfl⟩
      rw [← hn] at c0
      have HNL := Lib.hid (show n = L.length ∧ n ≤ 4096 from ⟨hn, by have := HD.out.1.ok.count; have := HD.out.1.len; omega⟩)
      clear hn
      go_wp2_with fail
      refine (HN.out _).mono ?_
      rintro e w2 ⟨rfl, rfl⟩
      go_wp2_with fail
      refine HFD.out.mono ?_
      rintro e w2 ⟨z, rfl, hzz, rfl⟩
      rcases hzz.get HD.out.1 with ⟨rfl, hg⟩ | ⟨i, f, rfl, hf, hnm, hg⟩
      · have HE := Lib.hid (show (fun D => if nameB c = false then (D, 3) else withF s (fun f D => ({ D with L := putS (delM D.L s) c f }, 0)) D) D1 = (D1, 7) from by
          show (if nameB c = false then _ else _) = _
          rw [if_neg (by rw [HNB.out]; decide)]
          unfold withF
          rw [hg])
        clear hg hzz
        go_wp2
        go_ret
        rw [HY.out, HE.out]
        exact RBegan.to ⟨rfl, HD.out.1, HD.out.2⟩
      · obtain ⟨gg, oo, hga, hgc⟩ := HD.out.1.row (by have := (List.getElem?_eq_some_iff.1 hf).1; omega)
        subst hga
        have hil : i < n := by rw [HNL.out.1]; exact (List.getElem?_eq_some_iff.1 hf).1
        have hin : (i : Int) < (n : Int) := by omega
        have hi0 : (0 : Int) ≤ (i : Int) := by omega
        have hin' : ¬ (i : Int) < 0 := by omega
        have g0 := hgc i f hf 0 (.string f.nm) rfl
        have g1 := hgc i f hf 1 (.slice f.a f.b.length f.c) rfl
        have g2 := hgc i f hf 2 (.int .i64 (f.s : Int)) rfl
        rw [Nat.add_zero] at g0
        have hfm := List.mem_of_getElem? hf
        have hdt := HD.out.1.data f hfm
        have hsm : f.b.length ≤ 4194304 := by
          have h3 := usedL_del HD.out.1.ok.asc.pair s
          rw [hg] at h3
          simp only [szM] at h3
          have := HD.out.1.ok.used
          have := HD.out.1.ok.capR
          omega
        obtain ⟨fnm, fa, fc, fb, fs⟩ := f
        simp only at hnm hg hsm g0 g1 g2
        unfold RF.v at hdt
        simp only at hdt
        obtain ⟨fn, hfn⟩ : ∃ fn, fn = fb.length := ⟨_, rfl⟩
        rw [← hfn] at hdt g1 hsm
        have HFN := Lib.hid (And.intro hfn (And.intro hfm hnm))
        obtain ⟨q, hq⟩ : ∃ q, q = w1.heap.size := ⟨_, rfl⟩
        obtain ⟨wa, hwa⟩ : ∃ wa, wa = w1.alloc (.cells #[.string fnm, .slice fa fn fc, .int .i64 (fs : Int)] 125) := ⟨_, rfl⟩
        have ka : Kept (fun _ => False) w1 wa := by rw [hwa]; exact (Kept.refl _ _).alloc _
        have BA : BoxAt wa q 125 #[.string fnm, .slice fa fn fc, .int .i64 (fs : Int)] := by rw [hwa, hq]; exact BoxAt.new w1 _ _
        have HA := Lib.hid (And.intro (HD.out.1.kept ka (fun _ _ x => x)) (And.intro ka (And.intro BA (And.intro (hdt.1.kept ka (fun _ _ x => x)) hdt.2))))
        have HW := Lib.hid (And.intro hwa hq)
        have HG := Lib.hid hg
        have qA0 : wa.cell? ⟨q, 0, none⟩ = some (.string fnm) := BA.cell rfl
        have qA1 : wa.cell? ⟨q, 1, none⟩ = some (.slice fa fn fc) := BA.cell rfl
        have qA2 : wa.cell? ⟨q, 2, none⟩ = some (.int .i64 (fs : Int)) := BA.cell rfl
        clear hf hgc hfm hdt hnm hg hfn hq hwa ka BA hzz hil

        have HE := Lib.hid (show (fun D => if nameB c = false then (D, 3) else withF s (fun f D => ({ D with L := putS (delM D.L s) c f }, 0)) D) D1 = ({ D1 with L := putS (delM D1.L s) c ⟨fb, fs⟩ }, 0) from by
          show (if nameB c = false then _ else _) = _
          rw [if_neg (by rw [HNB.out]; decide)]
          unfold withF
          rw [HG.out])
        have HWO := Lib.hid (refWithout_any rb (some ⟨gg, oo, none⟩) cp L D1 s wa HA.out.1)
        go_upto_region 10 with fail
        rw [← HW.out.1, ← HW.out.2]
        go_wp2_with fail
        refine HWO.out.mono ?_
        rintro e w2 ⟨v, rfl, hm⟩
        obtain ⟨xa, xc, rfl⟩ := hm.slice
        have h2 := HA.out.1.kept hm.kept (fun _ _ x => x)
        have c20 := h2.c.1
        have f20 := h2.box.fz 0
        obtain ⟨w3, hw3⟩ : ∃ w3, w3 = w2.setCell ⟨rb, 0, none⟩ (.slice xa (noN L s).length xc) := ⟨_, rfl⟩
        have hset := without_set HA.out.1 hm (removeF_ok HA.out.1.ok s)
        rw [← hw3] at hset
        obtain ⟨ao3, cp3, L3, _, r3, k3, f3⟩ := hset
        have B3 := HA.out.2.2.1.kept k3 (fun e => by have := HD.out.1.box.lt; have := HW.out.2; omega)
        have q31 : w3.cell? ⟨q, 1, none⟩ = some (.slice fa fn fc) := B3.cell rfl
        have q32 : w3.cell? ⟨q, 2, none⟩ = some (.int .i64 (fs : Int)) := B3.cell rfl
        have hdt3 : SlAt w3 (.slice fa fn fc) (byV fb) := HA.out.2.2.2.1.keptN k3 (fun hx j e x => by
          have x' : j = rb := x
          have e' : (⟨fnm, fa, fc, fb, fs⟩ : RF).v.ownBlock = some j := by unfold RF.v; cases fa <;> exact e
          exact HD.out.1.dataNe HFN.out.2.1 (byV_ne hx) e' x')
        have HP := Lib.hid (refPut_any rb ao3 cp3 L3 { D1 with L := delM D1.L s } c fa fc fn fb fs HFN.out.1.symm w3 r3 hdt3 HA.out.2.2.2.2 (by have := HOK.out; rw [HY.out, HE.out] at this; exact this))
        have HK3 := Lib.hid (And.intro ((HD.out.2.trans (HA.out.2.1.mono (fun _ _ x => x.elim))).trans k3) (And.intro f3 HA.out.2.1))
        have HW3 := Lib.hid hw3
        clear hm h2 hw3 r3 k3 f3 B3 hdt3
        go_upto_region 11 with fail
        rw [← HW3.out]
        go_wp2_with fail
        refine HP.out.mono ?_
        rintro e w4 hx
        obtain ⟨he, a4, cp4, L4, r4, k4, f4⟩ := hx
        have HR := Lib.hid (show RTo w rb (some ⟨gg, oo, none⟩) L ({ D1 with L := putS (delM D1.L s) c ⟨fb, fs⟩ }, 0) (.returned (.int .i64 0)) w4 from ⟨a4, cp4, L4, rfl, r4, HK3.out.1.trans k4, fun k e => by
          rcases f4 k e with x | ⟨x, y⟩ | x
          · rcases HK3.out.2.1 k x with z | z
            · exact .inl z
            · exact .inr (Nat.le_trans (HD.out.2.trans (HA.out.2.1.mono (fun _ _ x => x.elim))).size z)
          · exact .inl (RK.footData (f := ⟨fnm, fa, fc, fb, fs⟩) HFN.out.2.1 x y)
          · exact .inr (Nat.le_trans HK3.out.1.size x)⟩)
        subst he
        clear r4 k4 f4
        go_wp2
        go_ret
        rw [HY.out, HE.out]
        exact HR.out
  · have q0 : (z != 0) = true := bneT hz
    have HY := Lib.hid (HX.out.1 hz)
    clear hz
    go_wp2
    go_ret
    rw [HY.out]
    exact RBegan.to ⟨rfl, HD.out.1, HD.out.2⟩
end Go.Proofs.YtficodklidaheaaDoor
