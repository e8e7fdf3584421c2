/- Layer 23: the document's Without, Turned. -/
import Derived.Test.YtkidbbmdlmnokaaUG
namespace Go.Proofs.Ytkidbbmdlmnokaa
open Go.RowKit
attribute [local go_sem ↓] Go.wp_at_zero Go.wp_at_succ

theorem GAt.drop {α : Type} {c : α → List Value} {sz : Nat} {W : World} {ao : Option Addr} {L : List α} {cap : Nat} (h : GAt c sz W ao L) (lo : Nat) (hc : L.length ≤ cap) : GAt c sz W (if cap = lo then ao else ao.map (·.add (lo * sz))) (L.drop lo) := by
  intro h0
  rw [List.length_drop] at h0
  obtain ⟨g, o, rfl, hr⟩ := h (by omega)
  rw [if_neg (by omega)]
  refine ⟨g, o + lo * sz, ?_, fun i p hi j u hu => ?_⟩
  · show some ((⟨g, o, none⟩ : Addr).add (lo * sz)) = _
    have : ((⟨g, o, none⟩ : Addr).add (lo * sz)) = ⟨g, o + lo * sz, none⟩ := by unfold Addr.add; split <;> simp_all
    rw [this]
  · rw [List.getElem?_drop] at hi
    have := hr (lo + i) p hi j u hu
    rw [Nat.add_mul] at this
    rw [show o + lo * sz + i * sz + j = o + (lo * sz + i * sz) + j by omega]
    exact this
theorem noOwn {v : Value} (hv : v = .slice none 0 0) {w w' : World} (k : Kept (fun k => v.ownBlock = some k) w w') : Kept (fun _ => False) w w' := k.mono (fun _ _ e => by subst hv; cases e)
set_option maxHeartbeats 2000000 in
theorem without_any (a : Option Addr) (n c : Nat) (M : List Mg) (i : Nat) (w : World) (hn : M.length = n) (hM : GAt cellsM 3 w a M) (hi : i < n) (hc : n ≤ c) (hl : n ≤ 1000000) :
    Calls Try.prog 19 #[.slice a n c, .int .i64 (i : Int)] w fun e w' => ∃ v, e = .returned v ∧ MineG cellsM 3 29 w w' v (M.eraseIdx i) := by
  obtain ⟨iI, hiI, hzI0, hzI1, hzI2⟩ := info_parts Try.infoMsg
  have s1 := fun w => run_cutHm (P := Try.prog) Try.underlying26 hiI a n c i (by omega) w
  have s1a := fun w => run_cutHmAt (P := Try.prog) Try.underlying26 hiI a n c i (by omega) w
  have s2 := fun w => run_cutLm (P := Try.prog) Try.underlying26 hiI hzI1 a n c (i + 1) (by omega) w
  have s2a := fun w => run_cutLmAt (P := Try.prog) Try.underlying26 hiI hzI1 a n c (i + 1) (by omega) w
  have hsr1 : Src Try.prog 3 26 (.slice a i c) i (flatG cellsM (M.take i)) w := by
    have := (hM.take i).src (cp := c) cfM (by omega) Try.underlying26
    rwa [show (M.take i).length = i by rw [List.length_take]; omega] at this
  obtain ⟨a2, ha2⟩ : ∃ a2, a2 = (if c = i + 1 then a else a.map (·.add ((i + 1) * 3))) := ⟨_, rfl⟩
  have hsr2 : Hid (∀ w', Kept (fun _ => False) w w' → Src Try.prog 3 26 (.slice a2 (n - (i + 1)) (c - (i + 1))) (n - (i + 1)) (flatG cellsM (M.drop (i + 1))) w') := Lib.hid (fun w' k => by
    have := ((hM.kept k).drop (cap := c) (i + 1) (by omega)).src (cp := c - (i + 1)) cfM (by omega) Try.underlying26
    rwa [← ha2, show (M.drop (i + 1)).length = n - (i + 1) by rw [List.length_drop]; omega] at this)
  rw [← ha2] at s2 s2a
  have HE : Hid (M.take i ++ M.drop (i + 1) = M.eraseIdx i) := Lib.hid (List.eraseIdx_eq_take_drop_succ M i).symm
  have HT : Hid ((M.take i).length = i ∧ (M.drop (i + 1)).length = n - (i + 1)) := Lib.hid ⟨by rw [List.length_take]; omega, by rw [List.length_drop]; omega⟩
  obtain ⟨P, hP⟩ : ∃ P, P = M.take i := ⟨_, rfl⟩
  obtain ⟨D, hD⟩ : ∃ D, D = M.drop (i + 1) := ⟨_, rfl⟩
  rw [← hP] at hsr1 HE HT
  rw [← hD] at hsr2 HE HT
  have wi : IntKind.i64.wrap ((i : Int) + 1) = ((i + 1 : Nat) : Int) := by rw [IntWalk.i64_in _ ⟨by omega, by omega⟩]; omega
  obtain ⟨k, hk⟩ : ∃ k, k = i + 1 := ⟨_, rfl⟩
  rw [← hk] at s2 s2a hsr2 wi HT
  obtain ⟨n2, hn2⟩ : ∃ m, m = n - k := ⟨_, rfl⟩
  obtain ⟨c2, hc2⟩ : ∃ m, m = c - k := ⟨_, rfl⟩
  rw [← hn2] at s2 s2a hsr2 HT
  rw [← hc2] at s2 s2a hsr2
  have HS1 := Lib.hid hsr1
  have HLL := Lib.hid (show i ≤ 1000000 ∧ n2 ≤ 1000000 by omega)
  clear hn hM hi hc hl hsr1 ha2 hP hD hk hn2 hc2 hiI hzI0 hzI1 hzI2
  go_enter Try.func19, Try.ntmps19
  go_upto_region 2 with fail
  go_wp2_with (at_builtin; refine wpList_mineM rfl (.tmp 6) (.tmp 9) rfl w _ [] rfl (MineG.nil (Kept.refl _ _)) _ P i HT.out.1 rfl HS1.out (by have := HLL.out; simp; omega) ?_)
  intro v1 w1 hm1 hk1 _
  have HM1 := Lib.hid hm1
  have HS2 := Lib.hid (hsr2.out w1 hm1.kept)
  have hpl := HT.out.1
  obtain ⟨a1, c1, rfl⟩ := hm1.slice
  clear hm1 hk1
  go_upto_region 3 with fail
  go_wp2_with (at_builtin; refine wpList_mineM rfl (.tmp 11) (.tmp 15) rfl w _ P rfl HM1.out _ D n2 HT.out.2 rfl HS2.out (by have := HLL.out; have := HT.out.1; omega) ?_)
  intro v2 w2 hm2 hk2 _
  rw [HE.out] at hm2
  have HM2 := Lib.hid hm2
  clear hm2 hk2
  go_wp2
  go_ret
  exact ⟨_, rfl, HM2.out⟩
theorem swap_get {α : Type} {L : List α} {i k x : Nat} (hi : i < L.length) (hk : k < L.length) (hx : x < L.length) : (swapL L i k)[x]? = L[if x = i then k else if x = k then i else x]? := by
  rw [swapL_is (List.getElem?_eq_getElem hi) (List.getElem?_eq_getElem hk), List.getElem?_set, List.getElem?_set]
  by_cases h1 : k = x
  · subst h1
    rw [if_pos rfl, List.length_set, if_pos hk]
    by_cases h2 : k = i
    · subst h2; rw [if_pos rfl, List.getElem?_eq_getElem hk]
    · rw [if_neg h2, if_pos rfl, List.getElem?_eq_getElem hi]
  · rw [if_neg h1]
    by_cases h2 : i = x
    · subst h2
      rw [if_pos rfl, if_pos hi, if_pos rfl, List.getElem?_eq_getElem hk]
    · rw [if_neg h2, if_neg (fun e => h2 e.symm), if_neg (fun e => h1 e.symm)]
set_option maxHeartbeats 4000000 in
theorem turned_any (a : Option Addr) (n c : Nat) (M : List Mg) (i k : Nat) (w : World) (hn : M.length = n) (hM : GAt cellsM 3 w a M) (hi : i < n) (hk : k < n) (hl : n ≤ 1000000) :
    Calls Try.prog 22 #[.slice a n c, .int .i64 (i : Int), .int .i64 (k : Int)] w fun e w' => ∃ v, e = .returned v ∧ MineG cellsM 3 29 w w' v (swapL M i k) := by
  have HM := Lib.hid hM
  have HN := Lib.hid hn
  have HB := Lib.hid (show i < n ∧ k < n ∧ n ≤ 1000000 from ⟨hi, hk, hl⟩)
  clear hM hn hi hk hl
  go_enter Try.func22, Try.ntmps22
  go_upto_region 3 with fail
  go_loopg [7, 8] n (fun G s7 s8 wr => ∃ x : Nat, x ≤ n ∧ G = n - x ∧ s8 = .int .i64 x ∧ MineG cellsM 3 29 w wr s7 ((swapL M i k).take x))
  case atStart => exact ⟨0, Nat.zero_le _, rfl, rfl, by rw [List.take_zero]; exact MineG.nil (Kept.refl _ _)⟩
  case round =>
    obtain ⟨x, hxn, rfl, rfl, hm⟩ := hrel
    have hlen : ((swapL M i k).take x).length = x := by rw [List.length_take, swapL_len, HN.out]; omega
    obtain ⟨ar, cr, er⟩ := hm.slice
    rw [hlen] at er
    subst er
    have HMR := Lib.hid hm
    have HLEN := Lib.hid hlen
    clear hm hlen
    by_cases hd : x < n
    · have hdi : (x : Int) < (n : Int) := by omega
      have wi : IntKind.i64.wrap ((x : Int) + 1) = ((x + 1 : Nat) : Int) := by rw [IntWalk.i64_in _ ⟨by omega, by have := HB.out; omega⟩]; omega
      obtain ⟨j, hj⟩ : ∃ j, j = (if x = i then k else if x = k then i else x) := ⟨_, rfl⟩
      have hjn : j < n := by rw [hj]; have := HB.out; split <;> (try split) <;> omega
      have hsw : (swapL M i k)[x]? = M[j]? := by rw [hj]; exact swap_get (by rw [HN.out]; exact HB.out.1) (by rw [HN.out]; exact HB.out.2.1) (by rw [HN.out]; exact hd)
      have hg := List.getElem?_eq_getElem (l := M) (i := j) (by rw [HN.out]; exact hjn)
      obtain ⟨m, hm⟩ : ∃ m, m = M[j]'(by rw [HN.out]; exact hjn) := ⟨_, rfl⟩
      rw [← hm] at hg
      rw [hg] at hsw
      have htk : (swapL M i k).take (x + 1) = (swapL M i k).take x ++ [m] := by rw [List.take_add_one, hsw]; rfl
      obtain ⟨g, o, hao, hr⟩ := HM.out (by rw [HN.out]; omega)
      subst hao
      have kw := HMR.out.kept
      have e0 := kw.cell (hr j m hg 0 (.bool m.ack) rfl) (fun x => x)
      have e1 := kw.cell (hr j m hg 1 (.int .i64 m.have_) rfl) (fun x => x)
      have e2 := kw.cell (hr j m hg 2 (.slice m.a m.b.length m.c) rfl) (fun x => x)
      rw [Nat.add_zero] at e0
      have HSR := Lib.hid (src_oneG (P := Try.prog) cfM Try.underlying26 wr m)
      have HMA := Lib.hid (HMR.out.on ((Kept.refl _ wr).alloc (.cells (cellsM m).toArray 29)))
      obtain ⟨S, hS⟩ : ∃ S, S = swapL M i k := ⟨_, rfl⟩
      rw [← hS] at htk HMA HLEN
      have HTK := Lib.hid htk
      have HSS := Lib.hid hS
      clear hS
      have HD := Lib.hid hd
      obtain ⟨mk, mh, ma, mc, mb⟩ := m
      dsimp only at e0 e1 e2
      unfold cellsM at HSR HMA
      dsimp only at HSR HMA
      obtain ⟨nn, hnn⟩ : ∃ nn, nn = mb.length := ⟨_, rfl⟩
      rw [← hnn] at e2 HSR HMA
      have HNN := Lib.hid hnn
      have hj0 : (0 : Int) ≤ (j : Int) := by omega
      have hjl : (j : Int) < (n : Int) := by omega
      have HJ := Lib.hid hj
      clear hsw htk hg hm hr kw hd hxn hj hjn hnn
      have HKI : x = i ∧ j = k ∨ x ≠ i ∧ x = k ∧ j = i ∨ x ≠ i ∧ x ≠ k ∧ j = x := by
        rw [HJ.out]
        by_cases h1 : x = i
        · exact .inl ⟨h1, if_pos h1⟩
        · by_cases h2 : x = k
          · exact .inr (.inl ⟨h1, h2, by rw [if_neg h1, if_pos h2]⟩)
          · exact .inr (.inr ⟨h1, h2, by rw [if_neg h1, if_neg h2]⟩)
      rcases HKI with ⟨h1, h2⟩ | ⟨h1, h2, h3⟩ | ⟨h1, h2, h3⟩
      · have p1 : ((x : Int) == (i : Int)) = true := beqT (by omega)
        subst h2
        clear h1
        go_wp2_with (at_builtin; refine wpList_mineM rfl (.tmp 25) (.tmp 30) rfl w _ (S.take x) rfl HMA.out _ [⟨mk, mh, ma, mc, mb⟩] 1 rfl rfl (by rw [flatG_one']; unfold cellsM; dsimp only; rw [← HNN.out]; exact HSR.out) (by have := HLEN.out; have := HB.out; have := HD.out; omega) ?_)
        intro v' w8 hm8 _ _
        rw [← HTK.out] at hm8
        have HM8 := Lib.hid hm8
        clear hm8 p1 e0 e1 e2
        go_wp2
        go_roundg (n - (x + 1))
        case measure => have := HD.out; omega
        case rel => exact ⟨x + 1, HD.out, rfl, rfl, by rw [← HSS.out]; exact HM8.out⟩
      · have p1 : ((x : Int) == (i : Int)) = false := beqF (by omega)
        have p2 : ((x : Int) == (k : Int)) = true := beqT (by omega)
        subst h3
        clear h1 h2
        go_wp2_with (at_builtin; refine wpList_mineM rfl (.tmp 25) (.tmp 30) rfl w _ (S.take x) rfl HMA.out _ [⟨mk, mh, ma, mc, mb⟩] 1 rfl rfl (by rw [flatG_one']; unfold cellsM; dsimp only; rw [← HNN.out]; exact HSR.out) (by have := HLEN.out; have := HB.out; have := HD.out; omega) ?_)
        intro v' w8 hm8 _ _
        rw [← HTK.out] at hm8
        have HM8 := Lib.hid hm8
        clear hm8 p1 e0 e1 e2
        go_wp2
        go_roundg (n - (x + 1))
        case measure => have := HD.out; omega
        case rel => exact ⟨x + 1, HD.out, rfl, rfl, by rw [← HSS.out]; exact HM8.out⟩
      · have p1 : ((x : Int) == (i : Int)) = false := beqF (by omega)
        have p2 : ((x : Int) == (k : Int)) = false := beqF (by omega)
        have h4 := h3.symm
        clear h3
        subst h4
        clear h1 h2
        go_wp2_with (at_builtin; refine wpList_mineM rfl (.tmp 25) (.tmp 30) rfl w _ (S.take x) rfl HMA.out _ [⟨mk, mh, ma, mc, mb⟩] 1 rfl rfl (by rw [flatG_one']; unfold cellsM; dsimp only; rw [← HNN.out]; exact HSR.out) (by have := HLEN.out; have := HB.out; have := HD.out; omega) ?_)
        intro v' w8 hm8 _ _
        rw [← HTK.out] at hm8
        have HM8 := Lib.hid hm8
        clear hm8 p1 e0 e1 e2
        go_wp2
        go_roundg (n - (x + 1))
        case measure => have := HD.out; omega
        case rel => exact ⟨x + 1, HD.out, rfl, rfl, by rw [← HSS.out]; exact HM8.out⟩
    · have hxe : x = n := by omega
      have hdi : ¬ (x : Int) < (n : Int) := by omega
      have hdi' : decide (x < n) = false := decide_eq_false hd
      have HE : Hid ((swapL M i k).take x = swapL M i k) := Lib.hid (List.take_of_length_le (by rw [swapL_len, HN.out]; omega))
      clear hd hxn hxe
      go_wp2
      go_ret
      exact ⟨_, rfl, by rw [← HE.out]; exact HMR.out⟩
end Go.Proofs.Ytkidbbmdlmnokaa
