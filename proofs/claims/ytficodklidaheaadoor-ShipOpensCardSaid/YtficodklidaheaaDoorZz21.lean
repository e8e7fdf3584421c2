/- Texts put together: SF. -/
import Derived.Test.YtficodklidaheaaDoorZz20
/- Layer 18: the document's put. -/
namespace Go.Proofs.YtficodklidaheaaDoor
open Go.RowKit
attribute [local go_sem ↓] Go.wp_at_zero Go.wp_at_succ

/-- What put leaves. -/
def PutTo (w : World) (rb : Nat) (ao : Option Addr) (L : List RF) (f : RF) (D' : DA) (e : Ending) (w' : World) : Prop :=
  e = .returned (.tuple #[]) ∧ ∃ ao' cp' L', RK w' rb ao' cp' L' D' ∧ Kept (fun k => k = rb) w w' ∧ ∀ k, rfoot rb ao' L' k → rfoot rb ao L k ∨ (f.b ≠ [] ∧ f.v.ownBlock = some k) ∨ w.heap.size ≤ k
set_option maxRecDepth 100000 in
set_option maxHeartbeats 8000000 in
theorem refPut_any (rb : Nat) (ao : Option Addr) (cp : Nat) (L : List RF) (D : DA) (nm : ByteArray) (fa : Option Addr) (fc fn : Nat) (fb : List Nat) (fs : Nat) (hfn : fb.length = fn) (w : World) (h : RK w rb ao cp L D) (hdat : SlAt w (.slice fa fn fc) (byV fb)) (hfc : fn ≤ fc)
    (ok : DOk { D with L := putS D.L nm ⟨fb, fs⟩ }) :
    Calls Tryd.prog 75 #[.pointer (some ⟨rb, 0, none⟩), .agg #[.string nm, .slice fa fn fc, .int .i64 (fs : Int)]] w (PutTo w rb ao L ⟨nm, fa, fc, fb, fs⟩ { D with L := putS D.L nm ⟨fb, fs⟩ }) := by
  obtain ⟨q, hq⟩ : ∃ q, q = w.heap.size := ⟨_, rfl⟩
  obtain ⟨wa, hwa⟩ : ∃ wa, wa = w.alloc (.cells #[.string nm, .slice fa fn fc, .int .i64 (fs : Int)] 125) := ⟨_, rfl⟩
  have ka : Kept (fun _ => False) w wa := by rw [hwa]; exact (Kept.refl _ _).alloc _
  have BA : BoxAt wa q 125 #[.string nm, .slice fa fn fc, .int .i64 (fs : Int)] := by rw [hwa, hq]; exact BoxAt.new w _ _
  have HWO := Lib.hid (refWithout_any rb ao cp L D nm wa (h.kept ka (fun _ _ x => x)))
  have HH := Lib.hid (And.intro h (And.intro ok (And.intro hdat (And.intro hfc hfn))))
  have HA := Lib.hid (And.intro ka BA)
  have HW := Lib.hid (And.intro hwa hq)
  have qA0 : wa.cell? ⟨q, 0, none⟩ = some (.string nm) := BA.cell rfl
  clear h ok hdat hfc hfn hq hwa ka BA
  go_enter Tryd.func75, Tryd.ntmps75
  go_upto_region 1 with fail
  rw [← HW.out.1, ← HW.out.2]
  go_wp2_with fail
  refine HWO.out.mono ?_
  rintro e w1 ⟨v, rfl, hm⟩
  obtain ⟨xa, xc, rfl⟩ := hm.slice
  obtain ⟨X, hX⟩ : ∃ X, X = noN L nm := ⟨_, rfl⟩
  rw [← hX] at hm ⊢
  have HXX := Lib.hid hX
  obtain ⟨m, hmm⟩ : ∃ m, m = X.length := ⟨_, rfl⟩
  rw [← hmm] at hm ⊢
  have hm9 : m ≤ 4096 := by
    have h1 := noN_len L nm L.length
    rw [List.take_length] at h1
    have h2 := HH.out.1.ok.count
    have h3 := HH.out.1.len
    rw [hmm, hX]
    omega
  have HM9 := Lib.hid (And.intro hm9 hmm)
  have HMX := Lib.hid hm
  have HGX : Hid (GAt cellsR 3 w1 xa X) := Lib.hid (hm.at_ cfR)
  have BQ := HA.out.2.kept hm.kept (fun x => x)
  have HBQ := Lib.hid BQ
  clear hX hmm hm BQ qA0
  go_wp2
  go_loopg [5] m (fun g s5 wr => ∃ k : Nat, k ≤ m ∧ g = k ∧ s5 = .int .i64 k ∧ Kept (fun _ => False) w1 wr ∧ ∀ j p, k ≤ j → X[j]? = some p → ltN nm p.nm = true)
  case atStart => exact ⟨m, Nat.le_refl _, rfl, rfl, Kept.refl _ _, fun j p hj hp => by
    have := (List.getElem?_eq_some_iff.1 hp).1
    have := HM9.out.2
    omega⟩
  case round =>
    obtain ⟨k, hkm, rfl, rfl, hkr, hgt⟩ := hrel
    have HKR := Lib.hid hkr
    have HGT := Lib.hid hgt
    have q0 : wr.cell? ⟨q, 0, none⟩ = some (.string nm) := (HBQ.out.kept hkr (fun x => x)).cell rfl
    have HXC : Hid (m ≤ xc) := Lib.hid (by have := own_cap HMX.out.own; have := HM9.out.2; omega)
    obtain ⟨iI, hiI, hzI0, hzI1, hzI2⟩ := info_parts Tryd.infoR
    clear hgt
    obtain ⟨k, hkk⟩ : ∃ k, k = gk := ⟨_, rfl⟩
    rw [← hkk] at HGT hkm ⊢
    by_cases hk0 : k = 0
    · have p0 : ¬ (0 : Int) < (k : Int) := by omega
      have p0' : decide (0 < k) = false := decide_eq_false (by omega)
      have HSP : Hid ((X.map RF.t).take k ++ (nm, (⟨fb, fs⟩ : PF)) :: (X.map RF.t).drop k = putS D.L nm ⟨fb, fs⟩) := Lib.hid (by
        have hXt : X.map RF.t = delM D.L nm := by rw [HXX.out, noN_t, HH.out.1.eq]
        rw [hXt, ← putS_delS HH.out.1.ok.asc nm]
        refine put_split (delM_asc HH.out.1.ok.asc nm) (⟨fb, fs⟩ : PF) (fun p hp => (delM_mem hp).2) (fun j p hj hp => ?_) ?_
        · rw [← hXt, List.getElem?_map] at hp
          cases hx : X[j]? with
          | none => rw [hx] at hp; cases hp
          | some g =>
            rw [hx] at hp
            injection hp with hp
            rw [← hp]
            exact HGT.out j g hj hx
        · exact .inl hk0)
      clear hkr hkk hk0
      go_upto_region 3 with fail
      go_region
      obtain ⟨wd, hwd⟩ : ∃ wd, wd = wr.drew := ⟨_, rfl⟩
      rw [← hwd]
      have kd : Kept (fun _ => False) w1 wd := by rw [hwd]; exact HKR.out.drew
      have HKD := Lib.hid kd
      have ha1 := fun w => run_cutHr (P := Tryd.prog) Tryd.underlying81 hiI xa m xc k (by have := HXC.out; omega) w
      have ha1a := fun w => run_cutHrAt (P := Tryd.prog) Tryd.underlying81 hiI xa m xc k (by have := HXC.out; omega) w
      have hb1 := fun w => run_cutLr (P := Tryd.prog) Tryd.underlying81 hiI hzI1 xa m xc k hkm w
      have hb1a := fun w => run_cutLrAt (P := Tryd.prog) Tryd.underlying81 hiI hzI1 xa m xc k hkm w
      obtain ⟨xa2, hxa2⟩ : ∃ a2, a2 = (if xc = k then xa else Option.map (fun z => Addr.add z (k * 3)) xa) := ⟨_, rfl⟩
      rw [← hxa2] at hb1 hb1a
      have hsr1 : Src Tryd.prog 3 81 (.slice xa k xc) k (flatG cellsR (X.take k)) wd := by
        have := ((HGX.out.kept kd).take k).src (cp := xc) cfR (by omega) Tryd.underlying81
        rwa [show (X.take k).length = k by rw [List.length_take]; have := HM9.out.2; omega] at this
      have HSR1 := Lib.hid hsr1
      obtain ⟨m2, hm2⟩ : ∃ m2, m2 = m - k := ⟨_, rfl⟩
      obtain ⟨c2, hc2⟩ : ∃ c2, c2 = xc - k := ⟨_, rfl⟩
      rw [← hm2, ← hc2] at hb1 hb1a
      have HSR2 : Hid (∀ w', Kept (fun _ => False) w1 w' → Src Tryd.prog 3 81 (.slice xa2 m2 c2) m2 (flatG cellsR (X.drop k)) w') := Lib.hid (fun w' k' => by
        have := ((HGX.out.kept k').dropS (cap := xc) k (by have := HM9.out.2; have := HXC.out; omega)).src (cp := xc - k) cfR (by omega) Tryd.underlying81
        rwa [← hxa2, show (X.drop k).length = m - k by rw [List.length_drop]; have := HM9.out.2; omega, ← hm2, ← hc2] at this)
      have HLN : Hid ((X.take k).length = k ∧ (X.drop k).length = m2) := Lib.hid ⟨by rw [List.length_take]; have := HM9.out.2; omega, by rw [List.length_drop]; have := HM9.out.2; omega⟩
      have hk9 : k ≤ 4096 := by have := HM9.out.1; omega
      have hm29 : m2 ≤ 4096 := by have := HM9.out.1; omega
      clear hwd kd hsr1 hxa2 hm2 hc2 hkm
      go_upto_region 6 with fail
      go_wp2_with (at_builtin; refine wpList_mineR rfl (.tmp 28) (.tmp 31) rfl wd _ [] rfl (MineG.nil (Kept.refl _ _)) _ (X.take k) k HLN.out.1 rfl HSR1.out (by simp; omega) ?_)
      intro v1 w2 hm1 _ _
      obtain ⟨a1, cc1, rfl⟩ := hm1.slice
      rw [HLN.out.1] at hm1 ⊢
      have HM1 := Lib.hid hm1
      have BQ2 := HBQ.out.kept (HKD.out.trans hm1.kept) (fun x => x)
      have q20 : w2.cell? ⟨q, 0, none⟩ = some (.string nm) := BQ2.cell rfl
      have q21 : w2.cell? ⟨q, 1, none⟩ = some (.slice fa fn fc) := BQ2.cell rfl
      have q22 : w2.cell? ⟨q, 2, none⟩ = some (.int .i64 (fs : Int)) := BQ2.cell rfl
      have HMA := Lib.hid (hm1.on ((Kept.refl _ w2).alloc (.cells #[.string nm, .slice fa fn fc, .int .i64 (fs : Int)] 125)))
      have HSR := Lib.hid (show Src Tryd.prog 3 81 (.slice (some ⟨w2.heap.size, 0, none⟩) 1 1) 1 (flatG cellsR [(⟨nm, fa, fc, fb, fs⟩ : RF)]) (w2.alloc (.cells #[.string nm, .slice fa fn fc, .int .i64 (fs : Int)] 125)) by
        have := src_oneG (P := Tryd.prog) cfR Tryd.underlying81 w2 (⟨nm, fa, fc, fb, fs⟩ : RF)
        rw [flatG_one']
        unfold cellsR at this ⊢
        simp only [HH.out.2.2.2.2] at this ⊢
        exact this)
      clear hm1 BQ2
      go_upto_region 7 with fail
      go_wp2_with (at_builtin; refine wpList_mineR rfl (.tmp 33) (.tmp 35) rfl wd _ (X.take k) rfl HMA.out _ [(⟨nm, fa, fc, fb, fs⟩ : RF)] 1 rfl rfl HSR.out (by have := HLN.out.1; omega) ?_)
      intro v2 w3 hm2 _ _
      obtain ⟨a2, cc2, rfl⟩ := hm2.slice
      have hl2 : (X.take k ++ [(⟨nm, fa, fc, fb, fs⟩ : RF)]).length = k + 1 := by rw [List.length_append, HLN.out.1]; rfl
      rw [hl2] at hm2 ⊢
      have HM2 := Lib.hid hm2
      have HSS2 := Lib.hid (HSR2.out w3 (HKD.out.trans hm2.kept))
      clear hm2 q20 q21 q22
      go_upto_region 8 with fail
      go_wp2_with (at_builtin; refine wpList_mineR rfl (.tmp 38) (.tmp 41) rfl wd _ (X.take k ++ [(⟨nm, fa, fc, fb, fs⟩ : RF)]) rfl HM2.out _ (X.drop k) m2 HLN.out.2 rfl HSS2.out (by omega) ?_)
      intro v3 w4 hm3 _ _
      obtain ⟨a3, cc3, rfl⟩ := hm3.slice
      obtain ⟨Y, hY⟩ : ∃ Y, Y = X.take k ++ (⟨nm, fa, fc, fb, fs⟩ : RF) :: X.drop k := ⟨_, rfl⟩
      rw [← hY] at hm3 ⊢
      have kk : Kept (fun _ => False) w w4 := HA.out.1.trans (HMX.out.kept.trans (HKD.out.trans hm3.kept))
      have r4 := HH.out.1.kept kk (fun _ _ x => x)
      have b4 := r4.box
      have c40 := r4.c.1
      have f40 := b4.fz 0
      have hYt : Y.map RF.t = putS D.L nm ⟨fb, fs⟩ := by
        rw [hY, List.map_append, List.map_cons, List.map_take, List.map_drop]
        exact HSP.out
      have HR := Lib.hid (show PutTo w rb ao L ⟨nm, fa, fc, fb, fs⟩ { D with L := putS D.L nm ⟨fb, fs⟩ } (.returned (.tuple #[])) (w4.setCell ⟨rb, 0, none⟩ (.slice a3 Y.length cc3)) from by
        have k5 := kept_set w4 rb 0 (.slice a3 Y.length cc3)
        have hsub : ∀ f ∈ Y, f = ⟨nm, fa, fc, fb, fs⟩ ∨ f ∈ L := fun f hf => by
          rw [hY] at hf
          have hXL : ∀ g ∈ X, g ∈ L := fun g hg => by rw [HXX.out] at hg; exact (List.mem_filter.1 hg).1
          rcases List.mem_append.1 hf with e | e
          · exact .inr (hXL f (List.mem_of_mem_take e))
          · rcases List.mem_cons.1 e with e | e
            · exact .inl e
            · exact .inr (hXL f (List.mem_of_mem_drop e))
        have hrow4 := hm3.at_ cfR
        have hcap3 := own_cap hm3.own
        have hown : ∀ a, a3 = some a → wd.heap.size ≤ a.block ∧ a.block < w4.heap.size := fun a e => by
          have := ownsRow_lt hm3.own (k := a.block) (by rw [e]; rfl)
          exact ⟨this.2, this.1⟩
        have hsz : w.heap.size ≤ wd.heap.size := (HA.out.1.trans (HMX.out.kept.trans HKD.out)).size
        have hrb : rb < w.heap.size := HH.out.1.box.lt
        have hdatR : ∀ f ∈ Y, SlAt (w4.setCell ⟨rb, 0, none⟩ (.slice a3 Y.length cc3)) f.v (byV f.b) ∧ f.b.length ≤ f.c := fun f hf => by
          rcases hsub f hf with rfl | hf
          · have hd0 : SlAt w4 (.slice fa fb.length fc) (byV fb) := by rw [HH.out.2.2.2.2]; exact HH.out.2.2.1.kept kk (fun _ _ x => x)
            refine ⟨hd0.keptN k5 (fun hx j e x => ?_), by have := HH.out.2.2.2; simp only; omega⟩
            obtain ⟨_, jj, u, e1, e2⟩ := hd0.blk hx e
            have x' : j = rb := x
            rw [x'] at e2
            unfold byV at e1
            rw [List.getElem?_map] at e1
            cases hz : fb[0]? with
            | none => rw [hz] at e1; cases e1
            | some y =>
              rw [hz] at e1
              injection e1 with e1
              rw [← e1] at e2
              exact (r4.box_no _).2 _ e2
          · exact ⟨(r4.data f hf).1.keptN k5 (fun hx j e => r4.dataNe hf (byV_ne hx) e), (r4.data f hf).2⟩
        refine ⟨rfl, a3, cc3, Y, ⟨?_, hrow4.keptS k5 (fun a e _ x => ?_), hcap3, hYt, hdatR, HH.out.2.1⟩, (kk.mono (fun _ _ x => x.elim)).trans k5, fun k' e => ?_⟩
        · exact b4.set 0 _
        · have := (hown a e).1
          have x' : a.block = rb := x
          omega
        · rcases e with e | ⟨_, a, e, e2⟩ | ⟨f, hf, h1, h2⟩
          · exact .inl (.inl e)
          · have := (hown a e).1
            exact .inr (.inr (by omega))
          · rcases hsub f hf with rfl | hf
            · exact .inr (.inl ⟨h1, h2⟩)
            · exact .inl (.inr (.inr ⟨f, hf, h1, h2⟩)))
      clear hm3 hY kk r4 b4 hYt
      go_wp2
      go_end0
      exact HR.out
    · have p0 : (0 : Int) < (k : Int) := by omega
      have p0' : decide (0 < k) = true := decide_eq_true (by omega)
      obtain ⟨j, hj⟩ : ∃ j, k = j + 1 := ⟨k - 1, by omega⟩
      obtain ⟨g, hg⟩ : ∃ g, X[j]? = some g := ⟨_, List.getElem?_eq_getElem (by have := HM9.out.2; omega)⟩
      obtain ⟨gg, oo, hga, hgc⟩ := (HGX.out.kept hkr) (by have := HM9.out.2; omega)
      have g0 := hgc j g hg 0 (.string g.nm) rfl
      rw [Nat.add_zero] at g0
      have wj : IntKind.i64.wrap ((k : Int) - 1) = (j : Int) := by have := HM9.out.1; rw [IntWalk.i64_in _ ⟨by omega, by omega⟩]; omega
      have hjm : (j : Int) < (m : Int) := by omega
      have hj0 : (0 : Int) ≤ (j : Int) := by omega
      have hjm' : j < m := by omega
      obtain ⟨gn, hgn⟩ : ∃ gn, gn = g.nm := ⟨_, rfl⟩
      rw [← hgn] at g0
      have hgnn : gn ≠ nm := by
        have : g ∈ X := List.mem_of_getElem? hg
        rw [HXX.out] at this
        have := (List.mem_filter.1 this).2
        rw [hgn]
        simpa using this
      have p1 : (gn.toList == nm.toList) = false := toList_ne hgnn
      have HJ := Lib.hid (And.intro hj (And.intro hg hgn))
      cases hlt : ltN nm gn with
      | true =>
        have p2 : Op.bytesLess gn.toList nm.toList = false := ltN_asym hlt
        have HR := Lib.hid (show ∀ i p, j ≤ i → X[i]? = some p → ltN nm p.nm = true from fun i p hi hp => by
          by_cases e : i = j
          · rw [e, HJ.out.2.1] at hp
            injection hp with hp
            rw [← hp, ← HJ.out.2.2]
            exact hlt
          · exact HGT.out i p (by have := HJ.out.1; omega) hp)
        subst hga
        have HGK := Lib.hid hkk
        clear hkr hkk hk0 hg hgc hgn hgnn hlt hj
        go_upto_region 3 with fail
        go_region
        go_wp2
        go_roundg j
        case measure => have := HJ.out.1; have := HGK.out; omega
        case rel => exact ⟨j, by omega, rfl, rfl, HKR.out.drew, HR.out⟩
      | false =>
        have p2 : Op.bytesLess gn.toList nm.toList = true := ltN_tri (Ne.symm hgnn) hlt
        have HSP : Hid ((X.map RF.t).take k ++ (nm, (⟨fb, fs⟩ : PF)) :: (X.map RF.t).drop k = putS D.L nm ⟨fb, fs⟩) := Lib.hid (by
          have hXt : X.map RF.t = delM D.L nm := by rw [HXX.out, noN_t, HH.out.1.eq]
          rw [hXt, ← putS_delS HH.out.1.ok.asc nm]
          refine put_split (delM_asc HH.out.1.ok.asc nm) (⟨fb, fs⟩ : PF) (fun p hp => (delM_mem hp).2) (fun j p hj hp => ?_) ?_
          · rw [← hXt, List.getElem?_map] at hp
            cases hx : X[j]? with
            | none => rw [hx] at hp; cases hp
            | some g =>
              rw [hx] at hp
              injection hp with hp
              rw [← hp]
              exact HGT.out j g hj hx
          · exact .inr ⟨g.t, by rw [← hXt, List.getElem?_map, show k - 1 = j by omega, hg]; rfl, by show ltN nm g.nm = false; rw [← hgn]; exact hlt⟩)
        have HGA := Lib.hid hga
        rw [hga] at HGX
        subst hga
        clear hkr hkk hk0 hg hgc hgn hgnn hlt hj
        go_upto_region 3 with fail
        go_region
        obtain ⟨wd, hwd⟩ : ∃ wd, wd = wr.drew := ⟨_, rfl⟩
        rw [← hwd]
        have kd : Kept (fun _ => False) w1 wd := by rw [hwd]; exact HKR.out.drew
        have HKD := Lib.hid kd
        have ha1 := fun w => run_cutHr (P := Tryd.prog) Tryd.underlying81 hiI (some ⟨gg, oo, none⟩) m xc k (by have := HXC.out; omega) w
        have ha1a := fun w => run_cutHrAt (P := Tryd.prog) Tryd.underlying81 hiI (some ⟨gg, oo, none⟩) m xc k (by have := HXC.out; omega) w
        have hb1 := fun w => run_cutLr (P := Tryd.prog) Tryd.underlying81 hiI hzI1 (some ⟨gg, oo, none⟩) m xc k hkm w
        have hb1a := fun w => run_cutLrAt (P := Tryd.prog) Tryd.underlying81 hiI hzI1 (some ⟨gg, oo, none⟩) m xc k hkm w
        obtain ⟨xa2, hxa2⟩ : ∃ a2, a2 = (if xc = k then (some ⟨gg, oo, none⟩) else Option.map (fun z => Addr.add z (k * 3)) (some ⟨gg, oo, none⟩)) := ⟨_, rfl⟩
        rw [← hxa2] at hb1 hb1a
        have hsr1 : Src Tryd.prog 3 81 (.slice (some ⟨gg, oo, none⟩) k xc) k (flatG cellsR (X.take k)) wd := by
          have := ((HGX.out.kept kd).take k).src (cp := xc) cfR (by omega) Tryd.underlying81
          rwa [show (X.take k).length = k by rw [List.length_take]; have := HM9.out.2; omega] at this
        have HSR1 := Lib.hid hsr1
        obtain ⟨m2, hm2⟩ : ∃ m2, m2 = m - k := ⟨_, rfl⟩
        obtain ⟨c2, hc2⟩ : ∃ c2, c2 = xc - k := ⟨_, rfl⟩
        rw [← hm2, ← hc2] at hb1 hb1a
        have HSR2 : Hid (∀ w', Kept (fun _ => False) w1 w' → Src Tryd.prog 3 81 (.slice xa2 m2 c2) m2 (flatG cellsR (X.drop k)) w') := Lib.hid (fun w' k' => by
          have := ((HGX.out.kept k').dropS (cap := xc) k (by have := HM9.out.2; have := HXC.out; omega)).src (cp := xc - k) cfR (by omega) Tryd.underlying81
          rwa [← hxa2, show (X.drop k).length = m - k by rw [List.length_drop]; have := HM9.out.2; omega, ← hm2, ← hc2] at this)
        have HLN : Hid ((X.take k).length = k ∧ (X.drop k).length = m2) := Lib.hid ⟨by rw [List.length_take]; have := HM9.out.2; omega, by rw [List.length_drop]; have := HM9.out.2; omega⟩
        have hk9 : k ≤ 4096 := by have := HM9.out.1; omega
        have hm29 : m2 ≤ 4096 := by have := HM9.out.1; omega
        clear hwd kd hsr1 hxa2 hm2 hc2 hkm
        go_upto_region 6 with fail
        go_wp2_with (at_builtin; refine wpList_mineR rfl (.tmp 28) (.tmp 31) rfl wd _ [] rfl (MineG.nil (Kept.refl _ _)) _ (X.take k) k HLN.out.1 rfl HSR1.out (by simp; omega) ?_)
        intro v1 w2 hm1 _ _
        obtain ⟨a1, cc1, rfl⟩ := hm1.slice
        rw [HLN.out.1] at hm1 ⊢
        have HM1 := Lib.hid hm1
        have BQ2 := HBQ.out.kept (HKD.out.trans hm1.kept) (fun x => x)
        have q20 : w2.cell? ⟨q, 0, none⟩ = some (.string nm) := BQ2.cell rfl
        have q21 : w2.cell? ⟨q, 1, none⟩ = some (.slice fa fn fc) := BQ2.cell rfl
        have q22 : w2.cell? ⟨q, 2, none⟩ = some (.int .i64 (fs : Int)) := BQ2.cell rfl
        have HMA := Lib.hid (hm1.on ((Kept.refl _ w2).alloc (.cells #[.string nm, .slice fa fn fc, .int .i64 (fs : Int)] 125)))
        have HSR := Lib.hid (show Src Tryd.prog 3 81 (.slice (some ⟨w2.heap.size, 0, none⟩) 1 1) 1 (flatG cellsR [(⟨nm, fa, fc, fb, fs⟩ : RF)]) (w2.alloc (.cells #[.string nm, .slice fa fn fc, .int .i64 (fs : Int)] 125)) by
          have := src_oneG (P := Tryd.prog) cfR Tryd.underlying81 w2 (⟨nm, fa, fc, fb, fs⟩ : RF)
          rw [flatG_one']
          unfold cellsR at this ⊢
          simp only [HH.out.2.2.2.2] at this ⊢
          exact this)
        clear hm1 BQ2
        go_upto_region 7 with fail
        go_wp2_with (at_builtin; refine wpList_mineR rfl (.tmp 33) (.tmp 35) rfl wd _ (X.take k) rfl HMA.out _ [(⟨nm, fa, fc, fb, fs⟩ : RF)] 1 rfl rfl HSR.out (by have := HLN.out.1; omega) ?_)
        intro v2 w3 hm2 _ _
        obtain ⟨a2, cc2, rfl⟩ := hm2.slice
        have hl2 : (X.take k ++ [(⟨nm, fa, fc, fb, fs⟩ : RF)]).length = k + 1 := by rw [List.length_append, HLN.out.1]; rfl
        rw [hl2] at hm2 ⊢
        have HM2 := Lib.hid hm2
        have HSS2 := Lib.hid (HSR2.out w3 (HKD.out.trans hm2.kept))
        clear hm2 q20 q21 q22
        go_upto_region 8 with fail
        go_wp2_with (at_builtin; refine wpList_mineR rfl (.tmp 38) (.tmp 41) rfl wd _ (X.take k ++ [(⟨nm, fa, fc, fb, fs⟩ : RF)]) rfl HM2.out _ (X.drop k) m2 HLN.out.2 rfl HSS2.out (by omega) ?_)
        intro v3 w4 hm3 _ _
        obtain ⟨a3, cc3, rfl⟩ := hm3.slice
        obtain ⟨Y, hY⟩ : ∃ Y, Y = X.take k ++ (⟨nm, fa, fc, fb, fs⟩ : RF) :: X.drop k := ⟨_, rfl⟩
        rw [← hY] at hm3 ⊢
        have kk : Kept (fun _ => False) w w4 := HA.out.1.trans (HMX.out.kept.trans (HKD.out.trans hm3.kept))
        have r4 := HH.out.1.kept kk (fun _ _ x => x)
        have b4 := r4.box
        have c40 := r4.c.1
        have f40 := b4.fz 0
        have hYt : Y.map RF.t = putS D.L nm ⟨fb, fs⟩ := by
          rw [hY, List.map_append, List.map_cons, List.map_take, List.map_drop]
          exact HSP.out
        have HR := Lib.hid (show PutTo w rb ao L ⟨nm, fa, fc, fb, fs⟩ { D with L := putS D.L nm ⟨fb, fs⟩ } (.returned (.tuple #[])) (w4.setCell ⟨rb, 0, none⟩ (.slice a3 Y.length cc3)) from by
          have k5 := kept_set w4 rb 0 (.slice a3 Y.length cc3)
          have hsub : ∀ f ∈ Y, f = ⟨nm, fa, fc, fb, fs⟩ ∨ f ∈ L := fun f hf => by
            rw [hY] at hf
            have hXL : ∀ g ∈ X, g ∈ L := fun g hg => by rw [HXX.out] at hg; exact (List.mem_filter.1 hg).1
            rcases List.mem_append.1 hf with e | e
            · exact .inr (hXL f (List.mem_of_mem_take e))
            · rcases List.mem_cons.1 e with e | e
              · exact .inl e
              · exact .inr (hXL f (List.mem_of_mem_drop e))
          have hrow4 := hm3.at_ cfR
          have hcap3 := own_cap hm3.own
          have hown : ∀ a, a3 = some a → wd.heap.size ≤ a.block ∧ a.block < w4.heap.size := fun a e => by
            have := ownsRow_lt hm3.own (k := a.block) (by rw [e]; rfl)
            exact ⟨this.2, this.1⟩
          have hsz : w.heap.size ≤ wd.heap.size := (HA.out.1.trans (HMX.out.kept.trans HKD.out)).size
          have hrb : rb < w.heap.size := HH.out.1.box.lt
          have hdatR : ∀ f ∈ Y, SlAt (w4.setCell ⟨rb, 0, none⟩ (.slice a3 Y.length cc3)) f.v (byV f.b) ∧ f.b.length ≤ f.c := fun f hf => by
            rcases hsub f hf with rfl | hf
            · have hd0 : SlAt w4 (.slice fa fb.length fc) (byV fb) := by rw [HH.out.2.2.2.2]; exact HH.out.2.2.1.kept kk (fun _ _ x => x)
              refine ⟨hd0.keptN k5 (fun hx j e x => ?_), by have := HH.out.2.2.2; simp only; omega⟩
              obtain ⟨_, jj, u, e1, e2⟩ := hd0.blk hx e
              have x' : j = rb := x
              rw [x'] at e2
              unfold byV at e1
              rw [List.getElem?_map] at e1
              cases hz : fb[0]? with
              | none => rw [hz] at e1; cases e1
              | some y =>
                rw [hz] at e1
                injection e1 with e1
                rw [← e1] at e2
                exact (r4.box_no _).2 _ e2
            · exact ⟨(r4.data f hf).1.keptN k5 (fun hx j e => r4.dataNe hf (byV_ne hx) e), (r4.data f hf).2⟩
          refine ⟨rfl, a3, cc3, Y, ⟨?_, hrow4.keptS k5 (fun a e _ x => ?_), hcap3, hYt, hdatR, HH.out.2.1⟩, (kk.mono (fun _ _ x => x.elim)).trans k5, fun k' e => ?_⟩
          · exact b4.set 0 _
          · have := (hown a e).1
            have x' : a.block = rb := x
            omega
          · rcases e with e | ⟨_, a, e, e2⟩ | ⟨f, hf, h1, h2⟩
            · exact .inl (.inl e)
            · have := (hown a e).1
              exact .inr (.inr (by omega))
            · rcases hsub f hf with rfl | hf
              · exact .inr (.inl ⟨h1, h2⟩)
              · exact .inl (.inr (.inr ⟨f, hf, h1, h2⟩)))
        clear hm3 hY kk r4 b4 hYt
        go_wp2
        go_end0
        exact HR.out
end Go.Proofs.YtficodklidaheaaDoor
