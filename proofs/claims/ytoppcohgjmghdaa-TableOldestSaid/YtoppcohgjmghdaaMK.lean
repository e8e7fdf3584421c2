/- Layer 14: the document's Sorted (written by tools/gen_XMK.py). -/
import Derived.Test.YtoppcohgjmghdaaMJ
import Derived.Deep.RegionWith
namespace Go.Proofs.Ytoppcohgjmghdaa
open Go.RowKit
attribute [local go_sem ↓] Go.wp_at_zero Go.wp_at_succ

/-- The things by rising keys. -/
def srtD (N : List Dt) : List Dt := N.foldl (fun a x => putS a x.1 x.2) []
theorem srtD_succ {N : List Dt} {i : Nat} {x : Dt} (h : N[i]? = some x) : srtD (N.take (i + 1)) = putS (srtD (N.take i)) x.1 x.2 := by
  unfold srtD
  rw [List.take_add_one, h, List.foldl_append]
  rfl
theorem foldS_asc : ∀ (N a : List Dt), Asc a → Asc (N.foldl (fun a x => putS a x.1 x.2) a)
  | [], _, h => h
  | x :: r, _, h => foldS_asc r _ (putS_asc h x.1 x.2)
theorem srtD_asc (N : List Dt) : Asc (srtD N) := foldS_asc N [] List.Pairwise.nil
theorem foldS_get : ∀ (N a : List Dt), (N.Pairwise fun p q => p.1 ≠ q.1) → ∀ t, getM (N.foldl (fun a x => putS a x.1 x.2) a) t = (getM N t).or (getM a t)
  | [], _, _, _ => rfl
  | x :: r, a, h, t => by
    obtain ⟨h1, h2⟩ := List.pairwise_cons.1 h
    show getM (r.foldl (fun a x => putS a x.1 x.2) (putS a x.1 x.2)) t = _
    rw [foldS_get r _ h2, getM_put]
    show _ = (if x.1 = t then some x.2 else getM r t).or (getM a t)
    by_cases e : x.1 = t
    · rw [if_pos e, if_pos e, getM_none.2 (fun p hp => by rw [← e]; exact (h1 p hp).symm)]
      rfl
    · rw [if_neg e, if_neg e]
theorem srtD_get {N : List Dt} (h : N.Pairwise fun p q => p.1 ≠ q.1) (t : ByteArray) : getM (srtD N) t = getM N t := by
  unfold srtD
  rw [foldS_get N [] h]
  show (getM N t).or none = _
  cases getM N t <;> rfl
theorem srtD_perm {N : List Dt} (h : N.Pairwise fun p q => p.1 ≠ q.1) : (srtD N).Perm N := perm_of_get (srtD_asc N).pair h (srtD_get h)
theorem srtD_len {N : List Dt} (h : N.Pairwise fun p q => p.1 ≠ q.1) : (srtD N).length = N.length := (srtD_perm h).length_eq
theorem own_capD {w : World} {B : Nat} {E : TypeId} {ao : Option Addr} {n c z : Nat} {xs : List Value} (h : w.ownsRow B E z (.slice ao n c) n xs) : n ≤ c := by
  rcases h.2 with ⟨e, h0⟩ | ⟨g, cap, cur, e, _, _, hc, _⟩
  · injection e with _ h1 h2
    omega
  · injection e with _ _ e3
    subst e3
    exact hc
set_option maxRecDepth 100000 in
set_option maxHeartbeats 8000000 in
theorem rSorted_any (ao : Option Addr) (c : Nat) (N : List Dt) (w : World) (hr : GAt cellsDt 2 w ao N) (hl : N.length ≤ 1000000) (hN : N.Pairwise fun p q => p.1 ≠ q.1) :
    Calls Try.prog 22 #[.slice ao N.length c] w fun e w' => ∃ v, e = .returned v ∧ MineG cellsDt 2 54 w w' v (srtD N) := by
  obtain ⟨n, hn⟩ : ∃ n, n = N.length := ⟨_, rfl⟩
  rw [← hn]
  have HRW := Lib.hid hr
  have HB := Lib.hid (show n ≤ 1000000 ∧ n = N.length from ⟨by omega, hn⟩)
  have HN := Lib.hid hN
  have HSL : Hid (∀ i, (srtD (N.take i)).length ≤ n) := Lib.hid (fun i => by
    rw [srtD_len (hN.sublist (List.take_sublist _ _)), List.length_take]; omega)
  clear hr hl hn hN
  go_enter Try.func22, Try.ntmps22
  go_wp2
  go_loopg [3, 4] n (fun g s3 s4 wr => ∃ i : Nat, i ≤ n ∧ g = n - i ∧ s4 = .int .i64 i ∧ MineG cellsDt 2 54 w wr s3 (srtD (N.take i)))
  case atStart => exact ⟨0, Nat.zero_le _, rfl, rfl, MineG.nil (Kept.refl _ _)⟩
  case round =>
    obtain ⟨i, hin, rfl, rfl, hm⟩ := hrel
    obtain ⟨xa, xc, hpv⟩ := hm.slice
    subst hpv
    by_cases hd : i < n
    · have hdi : (i : Int) < (n : Int) := by omega
      have hdi0 : (0 : Int) ≤ (i : Int) := by omega
      have HI := Lib.hid hd
      obtain ⟨f, hf⟩ : ∃ f, N[i]? = some f := ⟨_, List.getElem?_eq_getElem (by have := HB.out; omega)⟩
      obtain ⟨nm, fv⟩ := f
      have wi : IntKind.i64.wrap ((i : Int) + 1) = ((i + 1 : Nat) : Int) := by have := HB.out; rw [IntWalk.i64_in _ ⟨by omega, by omega⟩]; omega
      have HSU := Lib.hid (srtD_succ hf)
      obtain ⟨X, hX⟩ : ∃ X, X = srtD (N.take i) := ⟨_, rfl⟩
      have hsl := HSL.out i
      have HNE : Hid (∀ p ∈ X, p.1 ≠ nm) := Lib.hid (fun p hp e => by
        have hpw := HN.out.sublist (List.take_sublist i N)
        have hp2 := (srtD_perm hpw).mem_iff.1 (hX ▸ hp)
        obtain ⟨j, hj⟩ := List.mem_iff_getElem?.1 hp2
        rw [List.getElem?_take] at hj
        split at hj
        · rename_i hji
          obtain ⟨h1, h2⟩ := List.getElem?_eq_some_iff.1 hj
          obtain ⟨h3, h4⟩ := List.getElem?_eq_some_iff.1 hf
          have := List.pairwise_iff_getElem.1 HN.out j i h1 h3 hji
          rw [h2, h4] at this
          exact this e
        · cases hj)
      have HAS : Hid (Asc X) := Lib.hid (hX ▸ srtD_asc _)
      rw [← hX] at hm hsl HSU ⊢
      obtain ⟨m, hmm⟩ : ∃ m, m = X.length := ⟨_, rfl⟩
      have hxc := own_capD hm.own
      rw [← hmm] at hm hsl hxc ⊢
      have HM9 := Lib.hid (show m ≤ 1000000 ∧ m = X.length from ⟨by have := HB.out; omega, hmm⟩)
      have HMX := Lib.hid hm
      have HGX : Hid (GAt cellsDt 2 wr xa X) := Lib.hid (hm.at_ cfDt)
      have HGN : Hid (GAt cellsDt 2 wr ao N) := Lib.hid (HRW.out.kept hm.kept)
      have HXC : Hid (m ≤ xc) := Lib.hid hxc
      have HF := Lib.hid hf
      obtain ⟨wo, hwo⟩ : ∃ wo, wo = wr := ⟨_, rfl⟩
      rw [← hwo] at HGX HGN HMX ⊢
      clear hm hX hmm hd hin hf hsl hwo hxc
      go_wp2
      go_loopg [5] m (fun g s5 wr => ∃ k : Nat, k ≤ m ∧ g = k ∧ s5 = .int .i64 k ∧ Kept (fun _ => False) wo wr ∧ ∀ j p, k ≤ j → X[j]? = some p → ltN nm p.1 = true)
      case atStart => exact ⟨m, Nat.le_refl _, rfl, rfl, Kept.refl _ _, fun j p hj hp => by
        have := (List.getElem?_eq_some_iff.1 hp).1
        have := HM9.out.2
        omega⟩
      case round =>
        obtain ⟨k, hkm, rfl, rfl, hkr, hgt⟩ := hrel
        have HKR := Lib.hid hkr
        have HGT := Lib.hid hgt
        obtain ⟨iI, hiI, hzI0, hzI1, hzI2⟩ := info_parts Try.infoD
        obtain ⟨gn2, on2, hgan, hgcn⟩ := (HGN.out.kept hkr) (by have := HI.out; have := HB.out; omega)
        have n0 := hgcn i _ HF.out 0 (.string nm) rfl
        have n1 := hgcn i _ HF.out 1 (.int .i64 fv) rfl
        rw [Nat.add_zero] at n0
        have HGA := Lib.hid hgan
        subst hgan
        clear hgt hgcn
        obtain ⟨k, hkk⟩ : ∃ k, k = gk := ⟨_, rfl⟩
        rw [← hkk] at HGT hkm ⊢
        by_cases hk0 : k = 0
        · have p0 : ¬ (0 : Int) < (k : Int) := by omega
          have p0' : decide (0 < k) = false := decide_eq_false (by omega)
          have HSP : Hid (X.take k ++ (nm, fv) :: X.drop k = putS X nm fv) := Lib.hid (put_split HAS.out fv HNE.out (fun j p hj hp => HGT.out j p hj hp) (.inl hk0))
          clear hkr hkk hk0
          go_upto_region 6 with fail
          go_region
          obtain ⟨wd, hwd⟩ : ∃ wd, wd = wr.drew := ⟨_, rfl⟩
          rw [← hwd]
          have kd : Kept (fun _ => False) wo wd := by rw [hwd]; exact HKR.out.drew
          have HKD := Lib.hid kd
          have ha1 := fun w => run_cutHr (P := Try.prog) Try.underlying27 hiI xa m xc k (by have := HXC.out; omega) w
          have ha1a := fun w => run_cutHrAt (P := Try.prog) Try.underlying27 hiI xa m xc k (by have := HXC.out; omega) w
          have hb1 := fun w => run_cutLr (P := Try.prog) Try.underlying27 hiI hzI1 xa m xc k hkm w
          have hb1a := fun w => run_cutLrAt (P := Try.prog) Try.underlying27 hiI hzI1 xa m xc k hkm w
          obtain ⟨xa2, hxa2⟩ : ∃ a2, a2 = (if xc = k then xa else Option.map (fun z => Addr.add z (k * 2)) xa) := ⟨_, rfl⟩
          rw [← hxa2] at hb1 hb1a
          have hsr1 : Src Try.prog 2 27 (.slice xa k xc) k (flatG cellsDt (X.take k)) wd := by
            have := ((HGX.out.kept kd).take k).src (cp := xc) cfDt (by omega) Try.underlying27
            rwa [show (X.take k).length = k by rw [List.length_take]; have := HM9.out.2; omega] at this
          have HSR1 := Lib.hid hsr1
          obtain ⟨m2, hm2⟩ : ∃ m2, m2 = m - k := ⟨_, rfl⟩
          obtain ⟨c2, hc2⟩ : ∃ c2, c2 = xc - k := ⟨_, rfl⟩
          rw [← hm2, ← hc2] at hb1 hb1a
          have HSR2 : Hid (∀ w', Kept (fun _ => False) wo w' → Src Try.prog 2 27 (.slice xa2 m2 c2) m2 (flatG cellsDt (X.drop k)) w') := Lib.hid (fun w' k' => by
            have := ((HGX.out.kept k').dropS (cap := xc) k (by have := HM9.out.2; have := HXC.out; omega)).src (cp := xc - k) cfDt (by omega) Try.underlying27
            rwa [← hxa2, show (X.drop k).length = m - k by rw [List.length_drop]; have := HM9.out.2; omega, ← hm2, ← hc2] at this)
          have HLN : Hid ((X.take k).length = k ∧ (X.drop k).length = m2) := Lib.hid ⟨by rw [List.length_take]; have := HM9.out.2; omega, by rw [List.length_drop]; have := HM9.out.2; omega⟩
          have hk9 : k ≤ 1000000 := by have := HM9.out.1; omega
          have hm29 : m2 ≤ 1000000 := by have := HM9.out.1; omega
          clear hwd kd hsr1 hxa2 hm2 hc2 hkm n0 n1
          go_upto_region 9 with fail
          go_wp2_with (at_builtin; refine wpList_mineD rfl (.tmp 33) (.tmp 36) rfl wd _ [] rfl (MineG.nil (Kept.refl _ _)) _ (X.take k) k HLN.out.1 rfl HSR1.out (by simp; omega) ?_)
          intro v1 w2 hm1 _ _
          obtain ⟨a1, cc1, rfl⟩ := hm1.slice
          rw [HLN.out.1] at hm1 ⊢
          have HM1 := Lib.hid hm1
          obtain ⟨gg2, oo2, hga2, hgc2⟩ := (HGN.out.kept (HKD.out.trans hm1.kept)) (by have := HI.out; have := HB.out; omega)
          have n0 := hgc2 i _ HF.out 0 (.string nm) rfl
          have n1 := hgc2 i _ HF.out 1 (.int .i64 fv) rfl
          rw [Nat.add_zero] at n0
          injection hga2 with hga2
          injection hga2 with hga2 hgo2
          rw [← hga2, ← hgo2] at n0 n1
          have HMA := Lib.hid (hm1.on ((Kept.refl _ w2).alloc (.cells #[.string nm, .int .i64 fv] 54)))
          have HSR := Lib.hid (show Src Try.prog 2 27 (.slice (some ⟨w2.heap.size, 0, none⟩) 1 1) 1 (flatG cellsDt [((nm, fv) : Dt)]) (w2.alloc (.cells #[.string nm, .int .i64 fv] 54)) by
            have := src_oneG (P := Try.prog) cfDt Try.underlying27 w2 ((nm, fv) : Dt)
            rw [flatG_one']
            exact this)
          clear hm1 hgc2 hga2 hgo2
          go_upto_region 10 with fail
          go_wp2_with (at_builtin; refine wpList_mineD rfl (.tmp 38) (.tmp 43) rfl wd _ (X.take k) rfl HMA.out _ [((nm, fv) : Dt)] 1 rfl rfl HSR.out (by have := HLN.out.1; omega) ?_)
          intro v2 w3 hm2 _ _
          obtain ⟨a2, cc2, rfl⟩ := hm2.slice
          have hl2 : (X.take k ++ [((nm, fv) : Dt)]).length = k + 1 := by rw [List.length_append, HLN.out.1]; rfl
          rw [hl2] at hm2 ⊢
          have HM2 := Lib.hid hm2
          have HSS2 := Lib.hid (HSR2.out w3 (HKD.out.trans hm2.kept))
          clear hm2 n0 n1
          go_upto_region 11 with fail
          go_wp2_with (at_builtin; refine wpList_mineD rfl (.tmp 45) (.tmp 48) rfl wd _ (X.take k ++ [((nm, fv) : Dt)]) rfl HM2.out _ (X.drop k) m2 HLN.out.2 rfl HSS2.out (by omega) ?_)
          intro v3 w4 hm3 _ _
          have HM4 : Hid (MineG cellsDt 2 54 w w4 v3 (srtD (N.take (i + 1)))) := Lib.hid (by
            rw [HSU.out, ← HSP.out]
            exact hm3.down (HMX.out.kept.trans HKD.out))
          clear hm3
          go_wp2
          go_roundg (n - (i + 1))
          case measure => have := HI.out; omega
          case rel => exact ⟨i + 1, HI.out, rfl, rfl, HM4.out⟩
        · have p0 : (0 : Int) < (k : Int) := by omega
          have p0' : decide (0 < k) = true := decide_eq_true (by omega)
          obtain ⟨j, hj⟩ : ∃ j, k = j + 1 := ⟨k - 1, by omega⟩
          obtain ⟨g, hg⟩ : ∃ g, X[j]? = some g := ⟨_, List.getElem?_eq_getElem (by have := HM9.out.2; omega)⟩
          obtain ⟨gg, oo, hga, hgc⟩ := (HGX.out.kept hkr) (by have := HM9.out.2; omega)
          have g0 := hgc j g hg 0 (.string g.1) rfl
          rw [Nat.add_zero] at g0
          have wj : IntKind.i64.wrap ((k : Int) - 1) = (j : Int) := by have := HM9.out.1; rw [IntWalk.i64_in _ ⟨by omega, by omega⟩]; omega
          have hjm : (j : Int) < (m : Int) := by omega
          have hj0 : (0 : Int) ≤ (j : Int) := by omega
          have hjm' : j < m := by omega
          obtain ⟨gn, hgn⟩ : ∃ gn, gn = g.1 := ⟨_, rfl⟩
          rw [← hgn] at g0
          have hgnn : gn ≠ nm := by rw [hgn]; exact HNE.out g (List.mem_of_getElem? hg)
          have p1 : (gn.toList == nm.toList) = false := toList_ne hgnn
          have HJ := Lib.hid (And.intro hj (And.intro hg hgn))
          cases hlt : ltN nm gn with
          | true =>
            have p2 : Op.bytesLess gn.toList nm.toList = false := ltN_asym hlt
            have HR := Lib.hid (show ∀ i p, j ≤ i → X[i]? = some p → ltN nm p.1 = true from fun i p hi hp => by
              by_cases e : i = j
              · rw [e, HJ.out.2.1] at hp
                injection hp with hp
                rw [← hp, ← HJ.out.2.2]
                exact hlt
              · exact HGT.out i p (by have := HJ.out.1; omega) hp)
            subst hga
            have HGK := Lib.hid hkk
            clear hkr hkk hk0 hg hgc hgn hgnn hlt hj
            go_upto_region 6 with fail
            go_region
            go_wp2
            go_roundg j
            case measure => have := HJ.out.1; have := HGK.out; omega
            case rel => exact ⟨j, by omega, rfl, rfl, HKR.out.drew, HR.out⟩
          | false =>
            have p2 : Op.bytesLess gn.toList nm.toList = true := ltN_tri (Ne.symm hgnn) hlt
            have HSP : Hid (X.take k ++ (nm, fv) :: X.drop k = putS X nm fv) := Lib.hid (put_split HAS.out fv HNE.out (fun j p hj hp => HGT.out j p hj hp) (by rw [show k - 1 = j by omega]; exact .inr ⟨g, hg, by rw [← hgn]; exact hlt⟩))
            rw [hga] at HGX
            subst hga
            clear hkr hkk hk0 hg hgc hgn hgnn hlt hj
            go_upto_region 6 with fail
            go_region
            obtain ⟨wd, hwd⟩ : ∃ wd, wd = wr.drew := ⟨_, rfl⟩
            rw [← hwd]
            have kd : Kept (fun _ => False) wo wd := by rw [hwd]; exact HKR.out.drew
            have HKD := Lib.hid kd
            have ha1 := fun w => run_cutHr (P := Try.prog) Try.underlying27 hiI (some ⟨gg, oo, none⟩) m xc k (by have := HXC.out; omega) w
            have ha1a := fun w => run_cutHrAt (P := Try.prog) Try.underlying27 hiI (some ⟨gg, oo, none⟩) m xc k (by have := HXC.out; omega) w
            have hb1 := fun w => run_cutLr (P := Try.prog) Try.underlying27 hiI hzI1 (some ⟨gg, oo, none⟩) m xc k hkm w
            have hb1a := fun w => run_cutLrAt (P := Try.prog) Try.underlying27 hiI hzI1 (some ⟨gg, oo, none⟩) m xc k hkm w
            obtain ⟨xa2, hxa2⟩ : ∃ a2, a2 = (if xc = k then (some ⟨gg, oo, none⟩) else Option.map (fun z => Addr.add z (k * 2)) (some ⟨gg, oo, none⟩)) := ⟨_, rfl⟩
            rw [← hxa2] at hb1 hb1a
            have hsr1 : Src Try.prog 2 27 (.slice (some ⟨gg, oo, none⟩) k xc) k (flatG cellsDt (X.take k)) wd := by
              have := ((HGX.out.kept kd).take k).src (cp := xc) cfDt (by omega) Try.underlying27
              rwa [show (X.take k).length = k by rw [List.length_take]; have := HM9.out.2; omega] at this
            have HSR1 := Lib.hid hsr1
            obtain ⟨m2, hm2⟩ : ∃ m2, m2 = m - k := ⟨_, rfl⟩
            obtain ⟨c2, hc2⟩ : ∃ c2, c2 = xc - k := ⟨_, rfl⟩
            rw [← hm2, ← hc2] at hb1 hb1a
            have HSR2 : Hid (∀ w', Kept (fun _ => False) wo w' → Src Try.prog 2 27 (.slice xa2 m2 c2) m2 (flatG cellsDt (X.drop k)) w') := Lib.hid (fun w' k' => by
              have := ((HGX.out.kept k').dropS (cap := xc) k (by have := HM9.out.2; have := HXC.out; omega)).src (cp := xc - k) cfDt (by omega) Try.underlying27
              rwa [← hxa2, show (X.drop k).length = m - k by rw [List.length_drop]; have := HM9.out.2; omega, ← hm2, ← hc2] at this)
            have HLN : Hid ((X.take k).length = k ∧ (X.drop k).length = m2) := Lib.hid ⟨by rw [List.length_take]; have := HM9.out.2; omega, by rw [List.length_drop]; have := HM9.out.2; omega⟩
            have hk9 : k ≤ 1000000 := by have := HM9.out.1; omega
            have hm29 : m2 ≤ 1000000 := by have := HM9.out.1; omega
            clear hwd kd hsr1 hxa2 hm2 hc2 hkm n0 n1
            go_upto_region 9 with fail
            go_wp2_with (at_builtin; refine wpList_mineD rfl (.tmp 33) (.tmp 36) rfl wd _ [] rfl (MineG.nil (Kept.refl _ _)) _ (X.take k) k HLN.out.1 rfl HSR1.out (by simp; omega) ?_)
            intro v1 w2 hm1 _ _
            obtain ⟨a1, cc1, rfl⟩ := hm1.slice
            rw [HLN.out.1] at hm1 ⊢
            have HM1 := Lib.hid hm1
            obtain ⟨gg2, oo2, hga2, hgc2⟩ := (HGN.out.kept (HKD.out.trans hm1.kept)) (by have := HI.out; have := HB.out; omega)
            have n0 := hgc2 i _ HF.out 0 (.string nm) rfl
            have n1 := hgc2 i _ HF.out 1 (.int .i64 fv) rfl
            rw [Nat.add_zero] at n0
            injection hga2 with hga2
            injection hga2 with hga2 hgo2
            rw [← hga2, ← hgo2] at n0 n1
            have HMA := Lib.hid (hm1.on ((Kept.refl _ w2).alloc (.cells #[.string nm, .int .i64 fv] 54)))
            have HSR := Lib.hid (show Src Try.prog 2 27 (.slice (some ⟨w2.heap.size, 0, none⟩) 1 1) 1 (flatG cellsDt [((nm, fv) : Dt)]) (w2.alloc (.cells #[.string nm, .int .i64 fv] 54)) by
              have := src_oneG (P := Try.prog) cfDt Try.underlying27 w2 ((nm, fv) : Dt)
              rw [flatG_one']
              exact this)
            clear hm1 hgc2 hga2 hgo2
            go_upto_region 10 with fail
            go_wp2_with (at_builtin; refine wpList_mineD rfl (.tmp 38) (.tmp 43) rfl wd _ (X.take k) rfl HMA.out _ [((nm, fv) : Dt)] 1 rfl rfl HSR.out (by have := HLN.out.1; omega) ?_)
            intro v2 w3 hm2 _ _
            obtain ⟨a2, cc2, rfl⟩ := hm2.slice
            have hl2 : (X.take k ++ [((nm, fv) : Dt)]).length = k + 1 := by rw [List.length_append, HLN.out.1]; rfl
            rw [hl2] at hm2 ⊢
            have HM2 := Lib.hid hm2
            have HSS2 := Lib.hid (HSR2.out w3 (HKD.out.trans hm2.kept))
            clear hm2 n0 n1
            go_upto_region 11 with fail
            go_wp2_with (at_builtin; refine wpList_mineD rfl (.tmp 45) (.tmp 48) rfl wd _ (X.take k ++ [((nm, fv) : Dt)]) rfl HM2.out _ (X.drop k) m2 HLN.out.2 rfl HSS2.out (by omega) ?_)
            intro v3 w4 hm3 _ _
            have HM4 : Hid (MineG cellsDt 2 54 w w4 v3 (srtD (N.take (i + 1)))) := Lib.hid (by
              rw [HSU.out, ← HSP.out]
              exact hm3.down (HMX.out.kept.trans HKD.out))
            clear hm3
            go_wp2
            go_roundg (n - (i + 1))
            case measure => have := HI.out; omega
            case rel => exact ⟨i + 1, HI.out, rfl, rfl, HM4.out⟩
    · have hdi : ¬ (i : Int) < (n : Int) := by omega
      have HE : Hid (N.take i = N) := Lib.hid (List.take_of_length_le (by have := HB.out; omega))
      have HM := Lib.hid hm
      clear hd hin hm
      go_wp2
      go_ret
      exact ⟨_, rfl, by have := HM.out; rw [HE.out] at this ⊢; exact this⟩
end Go.Proofs.Ytoppcohgjmghdaa
