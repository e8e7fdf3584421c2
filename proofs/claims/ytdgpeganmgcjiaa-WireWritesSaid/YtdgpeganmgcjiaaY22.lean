/- Layer 30: the walk of WireWrites. -/
import Derived.Test.YtdgpeganmgcjiaaY18
import Derived.Test.YtdgpeganmgcjiaaOW
namespace Go.Proofs.Ytdgpeganmgcjiaa
open Go.RowKit
attribute [local go_sem ↓] Go.wp_at_zero Go.wp_at_succ

theorem encB_byte {L : List FR} (h : encE L = 0) (hok : ∀ r ∈ L, r.Ok ∧ r.b.length ≤ 1000) : ∀ x ∈ encB L, x < 256 := by
  rw [encB_ok h]
  intro x hx
  obtain ⟨r, hr, hx⟩ := List.mem_flatMap.1 hx
  exact fldF_byte r (hok r hr).1 (hok r hr).2 ((encE_zero L).1 h r hr) x hx
set_option maxHeartbeats 8000000 in
set_option maxRecDepth 100000 in
theorem wireWrites_walk0 (ao : Option Addr) (c : Nat) (L : List PR) (W : World) (hr : FldsAt W ao L) (hf : fewF L = true) :
    Calls Try.prog 3 #[.slice ao L.length c] W fun e w' => e = .returned (.bool true) ∧ Kept (fun _ => False) W w' := by
  obtain ⟨hL1, hL2⟩ := fewF_true hf
  have HAW := Lib.hid (awake30_any W)
  have HFW := Lib.hid fun w' (k : Kept (fun _ => False) W w') => few30_any ao c L w' (hr.kept k) (by omega)
  rw [hf] at HFW
  have hbl : ∀ p ∈ L, p.r.b.length ≤ 1000 := fun p hp => by have := hL2 p hp; omega
  obtain ⟨E, hE⟩ : ∃ E, encE (recsR L) = E := ⟨_, rfl⟩
  obtain ⟨X, hX⟩ : ∃ X, encB (recsR L) = X := ⟨_, rfl⟩
  have HE1 := Lib.hid fun w' (k : Kept (fun _ => False) W w') => wEncode_any ao c L w' (hr.kept k) (by omega) hbl X E hE hX
  have HE2 := Lib.hid fun w' (k : Kept (fun _ => False) W w') => rEncode_any ao c L w' (hr.kept k) (by omega) hbl X E hE hX
  have hok : ∀ r ∈ recsR L, r.Ok ∧ r.b.length ≤ 300 := fun r h => by
    obtain ⟨p, hp, rfl⟩ := List.mem_map.1 h
    exact ⟨⟨(hr.ok p hp).v, (hr.ok p hp).by_.lt⟩, hL2 p hp⟩
  have HXB := Lib.hid (show E = 0 → (∀ x ∈ X, x < 256) ∧ X.length ≤ 60 * 320 ∧ decM X = (recsR L, 0, 0) by
    intro e
    have h0 : encE (recsR L) = 0 := by rw [hE, e]
    refine ⟨by rw [← hX]; exact encB_byte h0 (fun r h => ⟨(hok r h).1, by have := (hok r h).2; omega⟩), ?_, ?_⟩
    · rw [← hX, encB_ok h0]
      have h1 := flat_length (recsR L) 300 (fun r h => (hok r h).2)
      have h2 : (recsR L).length ≤ 60 := by unfold recsR; rw [List.length_map]; exact hL1
      have h3 := Nat.mul_le_mul_right (20 + 300) h2
      omega
    · rw [← hX, encB_ok h0]
      exact decM_put (recsR L) fun r h => ⟨(hok r h).1, by have := (hok r h).2; omega, (encE_zero _).1 h0 r h⟩)
  have HSM := Lib.hid fun w' a c1 M (k : Kept (fun _ => False) W w') (h : FldsAt w' a M) (e : recsR M = recsR L) => same30_any ao a c c1 L M w' (hr.kept k) h e.symm (by omega)
  obtain ⟨n, hn⟩ : ∃ n, n = L.length := ⟨_, rfl⟩
  have HN := Lib.hid hn
  rw [← hn] at HFW HE1 HE2 HSM ⊢
  obtain ⟨m, hm⟩ : ∃ n, n = X.length := ⟨_, rfl⟩
  have HM := Lib.hid hm
  rw [← hm] at HE1 HE2
  clear hr hf hL1 hL2 hbl hE hX hok hn hm
  have ee : ((E : Int) != (E : Int)) = false := by simp
  go_enter Try.func3, Try.ntmps3
  go_wp2_with fail
  refine HAW.out.mono ?_
  rintro e w1 ⟨rfl, k1⟩
  have K1 := Lib.hid k1
  clear k1
  go_wp2_with fail
  refine (HFW.out _ K1.out).mono ?_
  rintro e w2 ⟨rfl, rfl⟩
  go_wp2_with fail
  refine (HE1.out _ K1.out).mono ?_
  rintro e w2 ⟨a2, c2, rfl, hm2⟩
  have HM2 := Lib.hid hm2
  have K2 := Lib.hid (K1.out.trans hm2.kept)
  clear hm2
  go_wp2_with fail
  refine (HE2.out _ K2.out).mono ?_
  rintro e w3 ⟨a3, c3, rfl, hs3, hk3⟩
  have K3 := Lib.hid (K2.out.trans hk3)
  have HM3 := Lib.hid (HM2.out.on hk3)
  have q1 := mine_conv HM3.out
  have q2 := run_strN hs3 _ _ _ Try.underlying25 Try.underlying5 Try.underlying9
  obtain ⟨SX, hSX⟩ : ∃ s, s = strN X := ⟨_, rfl⟩
  rw [← hSX] at q1 q2
  clear hs3 hk3 hSX
  by_cases hE : E = 0
  · subst hE
    obtain ⟨x1, x2, x3⟩ := HXB.out rfl
    have HDE := Lib.hid (wDecode_any a2 c2 X w3 (By.ofMine (by rw [← HM.out]; exact HM3.out) x1) (by omega) (recsR L) 0 0 x3)
    rw [← HM.out] at HDE
    have hm9 : (m : Int) ≤ 100000 := by have := HM.out; omega
    clear x1 x2 x3
    go_wp2_with fail
    refine HDE.out.mono ?_
    rintro e w4 ⟨M, a4, c4, hM, rfl, hmf⟩
    have HMF := Lib.hid hmf
    have HRM := Lib.hid hM
    have K4 := Lib.hid (K3.out.trans hmf.kept)
    have HO4 := Lib.hid (show w4.ownsRow w1.heap.size 5 1 (.slice a2 m c2) m (bys X) by have := (HM3.out.on hmf.kept).own; rw [bys_length, ← HM.out] at this; exact this)
    have HBL := Lib.hid (fun q (e : some q = (Value.slice a2 m c2).ownBlock) => (ownsRow_lt HM3.out.own e.symm))
    have HW1 := Lib.hid K1.out.size
    obtain ⟨ml, hml⟩ : ∃ x, x = M.length := ⟨_, rfl⟩
    have HML := Lib.hid hml
    rw [← hml] at HMF ⊢
    clear hmf hM hml q1 q2
    go_wp2
    go_loopw [10] (fun t w' => ∃ j : Nat, j ≤ m ∧ t = .int .i64 j ∧ (∃ xs, w'.ownsRow w1.heap.size 5 1 (.slice a2 m c2) m xs) ∧ Kept (fun q => some q = (Value.slice a2 m c2).ownBlock) w4 w') (fun t _ => m - (intOf t).toNat)
    case atStart => exact ⟨0, by omega, rfl, ⟨_, HO4.out⟩, Kept.refl _ _⟩
    case round =>
      obtain ⟨i, hi5, rfl, ⟨xs, hxs⟩, hk5⟩ := hrel
      have HXS := Lib.hid hxs
      have HK5 := Lib.hid hk5
      clear hxs hk5
      by_cases hd5 : i < m
      · have hd5' : (i : Int) < (m : Int) := by omega
        have hi0 : (0 : Int) ≤ (i : Int) := by omega
        obtain ⟨g5, cap5, hv5, _, _⟩ := own_at HXS.out (by omega)
        injection hv5 with f1 f2 f3
        subst f1; subst f3
        clear f2
        obtain ⟨u5, hu5⟩ : ∃ u, xs[i]? = some u := ⟨_, List.getElem?_eq_getElem (by have := HXS.out.1; omega)⟩
        have hcell := own_cellAt HXS.out hu5
        have hfree := own_free HXS.out i
        clear hu5
        go_wp2
        go_roundw
        case rel => exact ⟨i + 1, hd5, by go_num, ⟨_, owns_set HXS.out i _⟩, HK5.out.setCell (p := ⟨g5, i, none⟩) (fun _ => rfl) _⟩
        case measure => simp [intOf]; omega
      · have him : i = m := by omega
        subst him
        obtain ⟨wC, rfl⟩ : ∃ x, x = wr := ⟨_, rfl⟩
        have KC : Kept (fun _ => False) W wC := K4.out.step HK5.out (fun q hq e => by have := (HBL.out q e).2; have := HW1.out; omega)
        have hml := HML.out
        have hmf := HMF.out
        have hat := hmf.at_.keptS HK5.out (fun a ha h0 e => by
          have h1 := (HBL.out _ e).1
          have h2 := (ownsRow_lt hmf.own (k := a.block) (by rw [ha]; rfl)).2
          omega) (fun p hp h0 a ha e => by
          have h1 := (HBL.out _ e).1
          have h2 := (hmf.sep p hp h0 a ha).2
          omega)
        have HS := Lib.hid (HSM.out wC a4 c4 M KC hat HRM.out)
        rw [← hml] at HS
        have HKC := Lib.hid KC
        clear KC hat hmf hml hd5 hi5
        go_wp2_with fail
        refine HS.out.mono ?_
        rintro e w6 ⟨rfl, k6⟩
        go_wp2
        go_ret
        exact ⟨rfl, HKC.out.trans k6⟩
  · have e0 : ((E : Int) != 0) = true := bneT (by omega)
    clear hE
    go_wp2
    go_ret
    exact ⟨rfl, K3.out⟩

set_option maxHeartbeats 1000000 in
theorem wireWrites_walk (ao : Option Addr) (c : Nat) (L : List PR) (W : World) (hr : FldsAt W ao L) (hl : L.length ≤ 9223372036854775807) :
    Calls Try.prog 3 #[.slice ao L.length c] W fun e w' => e = .returned (.bool true) ∧ Kept (fun _ => False) W w' := by
  by_cases h : fewF L = true
  · exact wireWrites_walk0 ao c L W hr h
  · have HA := Lib.hid (awake30_any W)
    have HF := Lib.hid fun w' (k : Kept (fun _ => False) W w') => few30_any ao c L w' (hr.kept k) hl
    rw [show fewF L = false by simpa using h] at HF
    obtain ⟨n, hn⟩ : ∃ n, n = L.length := ⟨_, rfl⟩
    rw [← hn] at HF ⊢
    clear hr hl hn h
    go_enter Try.func3, Try.ntmps3
    go_wp2_with fail
    refine HA.out.mono ?_
    rintro e w1 ⟨rfl, K1⟩
    have HK1 := Lib.hid K1
    clear K1
    go_wp2_with fail
    refine (HF.out _ HK1.out).mono ?_
    rintro e w2 ⟨rfl, rfl⟩
    go_wp2
    go_ret
    exact ⟨rfl, HK1.out⟩
end Go.Proofs.Ytdgpeganmgcjiaa
