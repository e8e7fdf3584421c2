/- Layer 14: the walk of TableOldest. -/
import Derived.Test.YtoppcohgjmghdaaMO
namespace Go.Proofs.Ytoppcohgjmghdaa
open Go.RowKit
attribute [local go_sem ↓] Go.wp_at_zero Go.wp_at_succ

set_option maxRecDepth 100000 in
set_option maxHeartbeats 16000000 in
theorem tableOldest_walk (aa : Option Addr) (ca : Nat) (A : List At) (w : World) (hA : ActsIn w aa A) (hAl : A.length ≤ 9223372036854775807) :
    Calls Try.prog 4 #[.slice aa A.length ca] w fun e w' => e = .returned (.bool true) ∧ Kept (fun _ => False) w w' := by
  have HAW := Lib.hid (awake14_any w)
  have HFEW := Lib.hid (fun w' (k : Kept (fun _ => False) w w') => few14_any aa ca A w' (hA.at_.kept k) hAl (fun x hx => (hA.ok x hx).key))
  have HA := Lib.hid hA
  obtain ⟨n, hn⟩ : ∃ n, n = A.length := ⟨_, rfl⟩
  rw [← hn] at HFEW ⊢
  have HN := Lib.hid hn
  clear hn hA hAl
  cases hf : fewAt A with
  | false =>
    rw [hf] at HFEW
    clear hf
    go_enter Try.func4, Try.ntmps4
    go_wp2_with fail
    refine HAW.out.mono ?_
    rintro e w1 ⟨rfl, k1⟩
    have HK1 := Lib.hid k1
    go_wp2_with fail
    refine (HFEW.out w1 k1).mono ?_
    rintro e w2 ⟨rfl, rfl⟩
    clear k1
    go_wp2
    go_ret
    exact ⟨rfl, HK1.out⟩
  | true =>
    rw [hf] at HFEW
    have H60 := Lib.hid (show n ≤ 60 ∧ ∀ x ∈ A, x.key.size ≤ 60 from ⟨by rw [HN.out]; exact (fewAt_ok hf).1, (fewAt_ok hf).2⟩)
    clear hf
    go_enter Try.func4, Try.ntmps4
    go_wp2_with fail
    refine HAW.out.mono ?_
    rintro e w1 ⟨rfl, k1⟩
    have HK1 := Lib.hid k1
    go_wp2_with fail
    refine (HFEW.out w1 k1).mono ?_
    rintro e w2 ⟨rfl, rfl⟩
    clear k1
    go_wp2_with fail
    refine (tNew_any 100 (by unfold I64; omega) w1).mono ?_
    rintro e w3 ⟨tb, mb, rfl, ht, k3⟩
    have HPT : Hid (PO w.heap.size w3 tb mb [] [] 0) := Lib.hid ⟨ht.down (HK1.out.size), fun q hq => by cases hq⟩
    have HK3 := Lib.hid (HK1.out.trans k3)
    clear ht k3
    go_wp2
    go_loopg [4, 5] n (fun g s4 s5 wr => ∃ i : Nat, i ≤ n ∧ g = n - i ∧ s5 = .int .i64 i ∧ Kept (fun _ => False) w wr ∧ ∃ ao c m L M, s4 = .slice ao m c ∧ m = (keyM M).length ∧ PO w.heap.size wr tb mb L M i ∧ RT wr tb mb ao c (keyM M))
    case atStart => exact ⟨0, Nat.zero_le _, rfl, rfl, HK3.out, ⟨none, 0, 0, [], [], rfl, rfl, HPT.out, RT.nil _ _ _⟩⟩
    case round =>
      obtain ⟨i, hin, rfl, rfl, hkr, ao, c, m, L, M, rfl, hmm, hp, hrt⟩ := hrel
      have HP := Lib.hid hp
      have HKR := Lib.hid hkr
      have HRT := Lib.hid hrt
      have HMM := Lib.hid hmm
      have hlen : M.length ≤ i := hp.t.few.1
      by_cases hd : i < n
      · have hdi : (i : Int) < (n : Int) := by omega
        have hdi0 : (0 : Int) ≤ (i : Int) := by omega
        have HI := Lib.hid hd
        obtain ⟨x, hx⟩ : ∃ x, A[i]? = some x := ⟨_, List.getElem?_eq_getElem (by have := HN.out; omega)⟩
        have hxm : x ∈ A := List.mem_of_getElem? hx
        have hxo := HA.out.ok x hxm
        obtain ⟨kd, key, v⟩ := x
        have HKY : Hid (key.size ≤ maxLen) := Lib.hid hxo.key
        have HG1 := Lib.hid (fun w' (k : Kept (fun _ => False) w w') => by
          obtain ⟨gg, oo, hga, hgc⟩ := (HA.out.at_.kept k) (by have := HN.out; omega)
          exact (⟨gg, oo, hga, hgc i _ hx 1 (.string key) rfl⟩ : ∃ gg oo, aa = some ⟨gg, oo, none⟩ ∧ w'.cell? ⟨gg, oo + i * 3 + 1, none⟩ = some (.string key)))
        obtain ⟨gg, oo, hga, g1⟩ := HG1.out wr hkr
        have wi : IntKind.i64.wrap ((i : Int) + 1) = ((i + 1 : Nat) : Int) := by have := H60.out.1; rw [IntWalk.i64_in _ ⟨by omega, by omega⟩]; omega
        have HI60 : Hid (i < 60) := Lib.hid (by have := H60.out.1; omega)
        have HTP := Lib.hid (tPut_any w.heap.size tb mb L M 100 i (by have := HI60.out; omega) key HKY.out i wr hp.t)
        rw [may_100 (by have := HI60.out; omega) key] at HTP
        have HM60 : Hid (m ≤ 60 ∧ m = (keyM M).length) := Lib.hid ⟨by rw [hmm, keyM_len]; have := HI60.out; omega, hmm⟩
        subst hga
        clear hx hxm hxo hp hkr hmm hin hd hrt hlen
        go_wp2_with fail
        refine HTP.out.mono ?_
        rintro e w4 ⟨rfl, k4, ht4, _⟩
        have HP4 := Lib.hid (HP.out.put (ht4 (by trivial)) HKY.out)
        have HK4 := Lib.hid (HKR.out.newer k4 HP.out.foot)
        have HR4 := Lib.hid (HRT.out.kept k4 (fun _ x => x))
        obtain ⟨K, hK⟩ : ∃ K, K = keyM M := ⟨_, rfl⟩
        rw [← hK] at HR4 HM60
        have HKK := Lib.hid hK
        clear k4 ht4 g1 hK
        go_wp2
        go_loopg [6, 7] m (fun g s6 s7 wr => ∃ k : Nat, k ≤ m ∧ g = m - k ∧ s7 = .int .i64 k ∧ Mine w4 wr 9 s6 (strs (noK (K.take k) key)))
        case atStart => exact ⟨0, Nat.zero_le _, rfl, rfl, Mine.nil' _ (Kept.refl _ _)⟩
        case round =>
          obtain ⟨k, hkm, rfl, rfl, hmi⟩ := hrel
          obtain ⟨xa, xc, hxv⟩ := hmi.slice
          subst hxv
          have HMI := Lib.hid hmi
          by_cases hd : k < m
          · have hdk : (k : Int) < (m : Int) := by omega
            have hdk0 : (0 : Int) ≤ (k : Int) := by omega
            have HKD := Lib.hid hd
            obtain ⟨s, hs⟩ : ∃ s, K[k]? = some s := ⟨_, List.getElem?_eq_getElem (by have := HM60.out.2; omega)⟩
            have HSU := Lib.hid (noK_succ hs key)
            have hr5 := HR4.out.kept hmi.kept (fun _ x => x.elim)
            obtain ⟨g2, o2, hg2, c2⟩ := hr5.elem hs
            obtain ⟨gg3, oo3, hga3, g1⟩ := HG1.out wr (HK4.out.trans hmi.kept)
            injection hga3 with hga3
            injection hga3 with hga3 hgo3
            rw [← hga3, ← hgo3] at g1
            have HC2 := Lib.hid (fun w' (kk : Kept (fun _ => False) wr w') => kk.cell c2 (fun x => x))
            have HGD := Lib.hid (fun w' (kk : Kept (fun _ => False) wr w') => kk.cell g1 (fun x => x))
            have wk : IntKind.i64.wrap ((k : Int) + 1) = ((k + 1 : Nat) : Int) := by have := HM60.out.1; rw [IntWalk.i64_in _ ⟨by omega, by omega⟩]; omega
            obtain ⟨Y, hY⟩ : ∃ Y, Y = noK (K.take k) key := ⟨_, rfl⟩
            have hyl := noK_len K key k
            rw [← hY] at HMI HSU hyl ⊢
            have HYL : Hid (Y.length ≤ 60) := Lib.hid (by have := HM60.out; omega)
            obtain ⟨y, hy⟩ : ∃ y, y = (strs Y).length := ⟨_, rfl⟩
            rw [← hy] at HMI ⊢
            subst hg2
            obtain ⟨wd, hwd⟩ : ∃ wd, wd = wr.drew := ⟨_, rfl⟩
            have kd : Kept (fun _ => False) wr wd := by rw [hwd]; exact (Kept.refl _ _).drew
            have g1 := HGD.out wd kd
            have c2 := HC2.out wd kd
            rw [hwd] at g1 c2
            by_cases he : s = key
            · have q1 : (s.toList == key.toList) = true := by rw [he]; exact beq_self_eq_true _
              have HSK : Hid (noK (K.take (k + 1)) key = Y) := Lib.hid (by rw [HSU.out, if_pos he, List.append_nil])
              have HMD := Lib.hid (HMI.out.on ((Kept.refl _ _).drew))
              clear hs hmi hd hkm hr5 hga3 hgo3 hY hyl hy hwd kd he
              go_upto_region 16 with fail
              go_region
              go_wp2
              go_roundg (m - (k + 1))
              case measure => have := HKD.out; omega
              case rel => exact ⟨k + 1, HKD.out, rfl, rfl, by rw [HSK.out]; exact HMD.out⟩
            · have q1 : (s.toList == key.toList) = false := toList_ne he
              have HSK : Hid (noK (K.take (k + 1)) key = Y ++ [s]) := Lib.hid (by rw [HSU.out, if_neg he])
              have HMD := Lib.hid ((HMI.out.on ((Kept.refl _ _).drew)).alloc (.cells #[.string s] 9))
              have HSO := Lib.hid (src_oneT wr.drew s)
              clear hs hmi hd hkm hr5 hga3 hgo3 hY hyl hy hwd kd he
              go_upto_region 16 with fail
              go_region
              go_wp2_with (at_builtin; refine wpList_mineT rfl (.tmp 51) (.tmp 56) rfl w4 _ Y rfl HMD.out _ [s] rfl HSO.out (by rw [strs_length, strs_length]; have := HYL.out; simp; omega) ?_)
              intro v' w8 hm8 _ _
              rw [← HSK.out] at hm8
              have HM8 := Lib.hid hm8
              clear hm8
              go_wp2
              go_roundg (m - (k + 1))
              case measure => have := HKD.out; omega
              case rel => exact ⟨k + 1, HKD.out, rfl, rfl, HM8.out⟩
          · have hdk : ¬ (k : Int) < (m : Int) := by omega
            have HE : Hid (K.take k = K) := Lib.hid (List.take_of_length_le (by have := HM60.out.2; omega))
            obtain ⟨gg3, oo3, hga3, g1⟩ := HG1.out wr (HK4.out.trans hmi.kept)
            injection hga3 with hga3
            injection hga3 with hga3 hgo3
            rw [← hga3, ← hgo3] at g1
            rw [HE.out] at HMI ⊢
            obtain ⟨Y, hY⟩ : ∃ Y, Y = noK K key := ⟨_, rfl⟩
            have hyl : (noK K key).length ≤ K.length := List.length_filter_le _ _
            rw [← hY] at HMI hyl ⊢
            have HYL : Hid (Y.length ≤ 60) := Lib.hid (by have := HM60.out; omega)
            have HYK : Hid (Y ++ [key] = keyM (putT M key (i : Int) i)) := Lib.hid (by rw [hY, HKK.out]; exact noK_key M key (i : Int) i)
            obtain ⟨y, hy⟩ : ∃ y, y = (strs Y).length := ⟨_, rfl⟩
            rw [← hy] at HMI ⊢
            have HMD := Lib.hid (HMI.out.alloc (.cells #[.string key] 9))
            have HSO := Lib.hid (src_oneT wr key)
            have HP5 := Lib.hid (HP4.out.kept hmi.kept)
            clear hmi hd hkm hga3 hgo3 hY hyl hy
            go_wp2_with (at_builtin; refine wpList_mineT rfl (.tmp 58) (.tmp 64) rfl w4 _ Y rfl HMD.out _ [key] rfl HSO.out (by rw [strs_length, strs_length]; have := HYL.out; simp; omega) ?_)
            intro v' w8 hm8 _ _
            obtain ⟨a8, c8, e8⟩ := hm8.slice
            subst e8
            rw [strs_length] at hm8 ⊢
            rw [HYK.out] at hm8 ⊢
            have HM8 := Lib.hid (And.intro (RT.ofMine hm8 rfl HP4.out.lt) (And.intro (HP4.out.kept hm8.kept) (HK4.out.trans hm8.kept)))
            clear hm8
            go_wp2
            go_roundg (n - (i + 1))
            case measure => have := HI.out; omega
            case rel => exact ⟨i + 1, HI.out, rfl, rfl, HM8.out.2.2, ⟨a8, c8, _, _, _, rfl, rfl, HM8.out.2.1, HM8.out.1⟩⟩
      · obtain rfl : i = n := by omega
        have hdi : ¬ (i : Int) < (i : Int) := by omega
        have HML : Hid (M.length = m ∧ m ≤ 60) := Lib.hid ⟨by rw [hmm, keyM_len], by have := H60.out.1; rw [hmm, keyM_len]; omega⟩
        have HTC := Lib.hid (tClone_any w.heap.size tb mb L M 100 i wr hkr.size hp.t)
        have HPR := Lib.hid hp.t.ok.pair
        obtain ⟨p, hpi⟩ : ∃ p, p = i := ⟨_, rfl⟩
        rw [← hpi] at HTC HP
        clear hp hkr hmm hin hd hrt hlen hpi
        go_wp2_with fail
        refine HTC.out.mono ?_
        rintro e w6 ⟨tc, mc, rfl, ht6, k6, htc, hmc⟩
        have HKC : Hid (∀ w', Kept (tfoot tb mb) w6 w' → TK w.heap.size w' tc mc L 100 M p) := Lib.hid (fun w' k => ht6.kept k (fun f => by have := HP.out.lt _ f; omega) (fun f => by have := HP.out.lt _ f; omega))
        have HRO : Hid (∀ w', Kept (tfoot tb mb) w6 w' → RT w' tb mb ao c (keyM M)) := Lib.hid (fun w' k => (HRT.out.kept k6 (fun _ x => x.elim)).kept k (fun _ x => x))
        have HK6 := Lib.hid (HKR.out.trans k6)
        have HP6 := Lib.hid (HP.out.kept k6)
        clear ht6 k6 htc hmc
        go_wp2
        go_loopg [9] m (fun g s9 wr => ∃ j : Nat, j ≤ m ∧ g = m - j ∧ s9 = .int .i64 j ∧ Kept (tfoot tb mb) w6 wr ∧ ∃ L, TK w.heap.size wr tb mb L 100 (M.drop j) p)
        case atStart => exact ⟨0, Nat.zero_le _, rfl, rfl, Kept.refl _ _, _, HP6.out.t⟩
        case round =>
          obtain ⟨j, hjm, rfl, rfl, hk, Lj, ht⟩ := hrel
          have HK := Lib.hid hk
          have HO := Lib.hid (tOldest_any w.heap.size tb mb Lj (M.drop j) 100 p wr ht)
          by_cases hd : j < m
          · have hdj : (j : Int) < (m : Int) := by omega
            have hdj0 : (0 : Int) ≤ (j : Int) := by omega
            have HJ := Lib.hid hd
            obtain ⟨q, hq⟩ : ∃ q, M[j]? = some q := ⟨_, List.getElem?_eq_getElem (by have := HML.out.1; omega)⟩
            obtain ⟨d1, d2, d3, d4, d5⟩ := drop_del HPR.out hq
            have hqs := HP.out.sz q (List.mem_of_getElem? hq)
            have hkq : (keyM M)[j]? = some q.1 := by unfold keyM; rw [List.getElem?_map, hq]; rfl
            obtain ⟨key, qx⟩ := q
            dsimp only at d1 d2 d3 d4 d5 hqs hkq
            rw [d3] at HO
            have HD1 := Lib.hid (fun w' (k : Kept (fun _ => False) wr w') => tDel_any w.heap.size tb mb Lj (M.drop j) 100 p key hqs w' (ht.kept k (fun x => x) (fun x => x)))
            rw [d2] at HD1
            have HD2 := Lib.hid (fun w' (h' : TK w.heap.size w' tb mb (delM Lj key) 100 (delM (M.drop j) key) p) => tDel_any w.heap.size tb mb (delM Lj key) (delM (M.drop j) key) 100 p key hqs w' h')
            rw [d1, d4, d5] at HD2
            have HDD := Lib.hid d1
            have HLN := Lib.hid (fun w' (k : Kept (fun _ => False) wr w') => tLen_any w.heap.size tb mb Lj (M.drop j) 100 p w' (ht.kept k (fun x => x) (fun x => x)))
            obtain ⟨z, hz⟩ : ∃ z, z = (M.drop j).length := ⟨_, rfl⟩
            rw [← hz] at HO HLN
            have hz' : z = m - j := by rw [hz, List.length_drop, HML.out.1]
            have wz : IntKind.i64.wrap ((m : Int) - (j : Int)) = (z : Int) := by have := HML.out.2; rw [IntWalk.i64_in _ ⟨by omega, by omega⟩]; omega
            have wz2 : wrap64 ((m : Int) - (j : Int)) = (z : Int) := by have := HML.out.2; unfold wrap64; omega
            have hz0 : decide (0 < z) = true := decide_eq_true (by omega)
            rw [hz0] at HO
            have wj : IntKind.i64.wrap ((j : Int) + 1) = ((j + 1 : Nat) : Int) := by have := HML.out.2; rw [IntWalk.i64_in _ ⟨by omega, by omega⟩]; omega
            obtain ⟨go, oo, hgo, cc⟩ := (HRO.out wr hk).elem hkq
            have HCO := Lib.hid (fun w' (kk : Kept (fun _ => False) wr w') => kk.cell cc (fun x => x))
            subst hgo
            clear hq d1 d2 d3 d4 d5 hqs hkq ht hk hjm hd hz hz' hz0 cc
            go_wp2_with fail
            refine HO.out.mono ?_
            rintro e w7 ⟨rfl, k7⟩
            have HK7 := Lib.hid k7
            have cc := HCO.out w7 k7
            clear k7
            go_wp2_with fail
            refine (HLN.out w7 HK7.out).mono ?_
            rintro e w8 ⟨rfl, rfl⟩
            go_wp2_with fail
            refine (HD1.out w7 HK7.out).mono ?_
            rintro e w8 ⟨rfl, ht8, k8⟩
            have HK8 := Lib.hid ((HK.out.trans (HK7.out.mono (fun _ _ x => x.elim))).trans k8)
            have HT8 := Lib.hid ht8
            clear k8 ht8 cc
            go_wp2_with fail
            refine (HD2.out w8 (by rw [← HDD.out]; exact HT8.out)).mono ?_
            rintro e w9 ⟨rfl, ht9, k9⟩
            have HK9 := Lib.hid (And.intro (HK8.out.trans k9) ht9)
            clear k9 ht9
            go_wp2
            go_roundg (m - (j + 1))
            case measure => have := HJ.out; omega
            case rel => exact ⟨j + 1, HJ.out, rfl, rfl, HK9.out.1, _, HK9.out.2⟩
          · obtain rfl : j = m := by omega
            have hdj : ¬ (j : Int) < (j : Int) := by omega
            have hM0 : M.drop j = [] := List.drop_eq_nil_of_le (by have := HML.out.1; omega)
            rw [hM0] at HO ht
            have HLN := Lib.hid (fun w' (k : Kept (fun _ => False) wr w') => tLen_any w.heap.size tb mb Lj [] 100 p w' (ht.kept k (fun x => x) (fun x => x)))
            have HCT := Lib.hid (fun w' (k : Kept (fun _ => False) wr w') => HKC.out w' (HK.out.trans (k.mono (fun _ _ x => x.elim))))
            have HCL := Lib.hid (fun w' (k : Kept (fun _ => False) wr w') => tLen_any w.heap.size tc mc L M 100 p w' (HCT.out w' k))
            have HCK := Lib.hid (fun w' (k : Kept (fun _ => False) wr w') => tKeys_any w.heap.size tc mc L M 100 p (keysD (dtM M)) (keysD_rise _) (keysD_perm HPR.out) w' (HCT.out w' k))
            have HKL : Hid ((keysD (dtM M)).length = j) := Lib.hid (by rw [keysD_len HPR.out, HML.out.1])
            rw [HML.out.1] at HCL
            rw [show oldT [] = ByteArray.empty from rfl, show decide (0 < ([] : List (ByteArray × Th)).length) = false from rfl] at HO
            have HWW := Lib.hid (HK6.out.newer hk HP.out.foot)
            clear hM0 ht hk hjm hd
            go_wp2_with fail
            refine HO.out.mono ?_
            rintro e w7 ⟨rfl, k7⟩
            have HK7 := Lib.hid k7
            clear k7
            go_wp2_with fail
            refine (HLN.out w7 HK7.out).mono ?_
            rintro e w8 ⟨rfl, rfl⟩
            go_wp2_with fail
            refine (HCL.out w7 HK7.out).mono ?_
            rintro e w8 ⟨rfl, rfl⟩
            go_wp2_with fail
            refine (HCK.out w7 HK7.out).mono ?_
            rintro e w8 ⟨v8, rfl, hm8⟩
            obtain ⟨a8, c8, e8⟩ := hm8.slice
            subst e8
            rw [strs_length, HKL.out]
            have HK8 := Lib.hid ((HWW.out.trans HK7.out).trans hm8.kept)
            clear hm8
            go_wp2
            go_ret
            exact ⟨rfl, HK8.out⟩
end Go.Proofs.Ytoppcohgjmghdaa
