/- Texts put together: X10, F12. -/
import Derived.Test.YtficodklidaheaaDoorZz19
import Derived.Test.YtficodklidaheaaDoorRows
import Derived.Test.YtficodklidaheaaDoorZz7
import Derived.Lib.LaidTab
import Derived.LaidMore
import Derived.LaidLaws
import Derived.Stop.Joined
/- Layer 25: the walk of ShipDue. -/
namespace Go.Proofs.YtficodklidaheaaDoor
open Go.RowKit
attribute [local go_sem ↓] Go.wp_at_zero Go.wp_at_succ

/-- What Take leaves is a checkpoint. -/
theorem take_at (a : Int) : ∃ D b, takeSh sd0 0 a 4503599627370496 = (D, (if 0 < a ∧ a ≤ 4503599627370496 then a else 0), b, 0) := by
  by_cases h : 0 < a ∧ a ≤ 4503599627370496
  · have := sd_take a h
    refine ⟨(takeSh sd0 0 a 4503599627370496).1, true, ?_⟩
    rw [if_pos h, ← this]
  · rw [if_neg h]
    exact ⟨sd0, false, sd_take0 a (by omega)⟩
set_option maxRecDepth 100000 in
set_option maxHeartbeats 8000000 in
theorem shipDue_walk (ao : Option Addr) (c : Nat) (L : List (Int × Int)) (ack win : Int) (W : World) (hL : SpansIn W ao L) (hl63 : L.length ≤ 9223372036854775807) (_h1 : -9223372036854775808 ≤ ack ∧ ack ≤ 9223372036854775807) (_h2 : -9223372036854775808 ≤ win ∧ win ≤ 9223372036854775807) (HN : Nibs W) :
    Calls Tryd.prog 11 #[.slice ao L.length c, .int .i64 ack, .int .i64 win] W fun e w' => e = .returned (.bool true) ∧ Kept (fun _ => False) W w' := by
  have hb0 := nibs_pos2 HN
  have HNI := Lib.hid HN
  have HAW := Lib.hid (awake25_any W HN)
  have HA := Lib.hid hL.at_
  obtain ⟨n, hn⟩ : ∃ n, n = L.length := ⟨_, rfl⟩
  rw [← hn] at hl63 ⊢
  have HLN := Lib.hid hn
  clear hL hn HN
  by_cases h3 : 100 < n
  · have q3 : (100 : Int) < (n : Int) := by omega
    have q3' : decide (100 < n) = true := decide_eq_true h3
    clear h3
    go_enter Tryd.func11, Tryd.ntmps11
    go_wp2_with fail
    refine HAW.out.mono ?_
    rintro e w1 ⟨rfl, k1⟩
    have HK1 := Lib.hid k1
    clear k1
    go_wp2
    go_ret
    exact ⟨rfl, HK1.out⟩
  have q3 : ¬ (100 : Int) < (n : Int) := by omega
  have q3' : decide (100 < n) = false := decide_eq_false h3
  have HSM : Hid (n ≤ 100) := Lib.hid (by omega)
  have HNW := Lib.hid (fun w (k : Kept (fun _ => False) W w) => dNew_any none 0 0 [] rfl 1000 (by decide) w (fun h => absurd h (by simp)) (fun f hf => by cases hf))
  rw [show List.map AF.t [] = [] from rfl, sd_new] at HNW
  clear h3
  go_enter Tryd.func11, Tryd.ntmps11
  go_wp2_with fail
  refine HAW.out.mono ?_
  rintro e w1 ⟨rfl, k1⟩
  have HK1 := Lib.hid k1
  clear k1
  go_wp2_with fail
  refine (HNW.out w1 HK1.out).mono ?_
  rintro e w2 ⟨_, h2⟩
  obtain ⟨db, mb, L0, rfl, h2, k2⟩ := h2 _ rfl
  have HK2 := Lib.hid (HK1.out.trans k2)
  have HD2 : Hid (DK W.heap.size w2 db mb L0 sd0) := Lib.hid ⟨h2.box, h2.map, h2.perm, fun p hp => (h2.data p hp).imp id (fun ⟨g, cur, h1, h3, h4⟩ => ⟨g, cur, h1, Nat.le_trans HK1.out.size h3, h4⟩), h2.sep, ⟨Nat.le_trans HK1.out.size h2.base.1, Nat.le_trans HK1.out.size h2.base.2⟩, h2.ok⟩
  have HOP := Lib.hid (shOpen_any W.heap.size db mb hb0 L0 sd0 w2 HD2.out (HNI.out.kept HK2.out) (fun b e => by rw [← e, sd_load]; simp))
  rw [sd_open] at HOP
  clear h2 k2
  go_wp2_with fail
  refine HOP.out.mono ?_
  rintro e w3 ⟨L3, v, rfl, h3, k3, f3, _, hs⟩
  obtain ⟨p, rfl, hb3, hp3, hn3⟩ := hs 0 rfl
  have HPW := Lib.hid (Nat.le_trans HK2.out.size hp3)
  have HD3 := Lib.hid h3
  have HK3 := Lib.hid (HK2.out.newer k3 (fun j e => (HD2.out.lt e).2))
  have HT := Lib.hid (shTake_any W.heap.size db mb hb0 L3 sd0 p 0 ack 4503599627370496 w3 h3 hb3 hn3 (HNI.out.kept HK3.out))
  obtain ⟨D4, b4, ht4⟩ := take_at ack
  rw [ht4] at HT
  obtain ⟨at', hat⟩ : ∃ at', at' = (if 0 < ack ∧ ack ≤ 4503599627370496 then ack else 0) := ⟨_, rfl⟩
  rw [← hat] at HT
  have HAT := Lib.hid hat
  clear hs h3 k3 f3 hb3 hp3 hn3 ht4 hat
  go_wp2_with fail
  refine HT.out.mono ?_
  rintro e w4 ⟨L4, rfl, _, k4, _, hb4, _⟩
  have HK4 := Lib.hid (take_kept HD3.out HK3.out HPW.out k4)
  have HB4 := Lib.hid hb4
  clear k4 hb4
  by_cases hp0 : 0 < ack
  · have q5 : decide (0 < ack) = true := decide_eq_true hp0
    by_cases hp1 : ack ≤ 4503599627370496
    · have q6 : decide (ack ≤ 4503599627370496) = true := decide_eq_true hp1
      have e4 : at' = ack := by rw [HAT.out, if_pos ⟨hp0, hp1⟩]
      subst e4
      clear hp0 hp1
      go_wp2
      go_loopg [11, 12] n (fun g s11 s12 wr => ∃ i : Nat, i ≤ n ∧ g = n - i ∧ s12 = .int .i64 (i : Int) ∧ s11 = .int .i64 ((leftN at' (L.take i) : Nat) : Int) ∧ w4 = wr)
      case atStart => exact ⟨0, Nat.zero_le _, rfl, rfl, rfl, rfl⟩
      case round =>
        obtain ⟨i, hin, rfl, rfl, rfl, rfl⟩ := hrel
        have hle : leftN at' (L.take i) ≤ i := Nat.le_trans (leftN_le at' (L.take i)) (by rw [List.length_take]; omega)
        obtain ⟨k, hkk⟩ : ∃ k, k = leftN at' (L.take i) := ⟨_, rfl⟩
        rw [← hkk] at hle ⊢
        have HKK := Lib.hid hkk
        by_cases hd : i < n
        · have hdi : (i : Int) < (n : Int) := by omega
          have hdi0 : (0 : Int) ≤ (i : Int) := by omega
          have HD := Lib.hid hd
          have wi : IntKind.i64.wrap ((i : Int) + 1) = ((i + 1 : Nat) : Int) := by have := HSM.out; rw [IntWalk.i64_in _ ⟨by omega, by omega⟩]; omega
          obtain ⟨x, hx⟩ : ∃ x, L[i]? = some x := ⟨_, List.getElem?_eq_getElem (by rw [← HLN.out]; exact hd)⟩
          obtain ⟨gg, oo, hga, hgc⟩ := (HA.out.kept HK4.out) (by rw [← HLN.out]; omega)
          subst hga
          have g1 := hgc i x hx 1 (.int .i64 x.2) rfl
          have HS := Lib.hid (leftN_succ (ack := at') hx)
          obtain ⟨x1, x2⟩ := x
          dsimp only at g1 HS
          by_cases he : at' < x2
          · have q1 : decide (at' < x2) = true := decide_eq_true he
            have wk : IntKind.i64.wrap ((k : Int) + 1) = ((k + 1 : Nat) : Int) := by have := HSM.out; rw [IntWalk.i64_in _ ⟨by omega, by omega⟩]; omega
            have HS2 : Hid (((k + 1 : Nat) : Int) = ((leftN at' (L.take (i + 1)) : Nat) : Int)) := Lib.hid (by rw [HS.out, if_pos he, ← HKK.out])
            clear he hgc hx hkk hd hin hle
            go_wp2
            go_roundg (n - (i + 1))
            case measure => have := HD.out; omega
            case rel => exact ⟨i + 1, HD.out, rfl, rfl, by rw [← HS2.out]; rfl, rfl⟩
          · have q1 : decide (at' < x2) = false := decide_eq_false he
            have HS2 : Hid (leftN at' (L.take (i + 1)) = k) := Lib.hid (by rw [HS.out, if_neg he, ← HKK.out, Nat.add_zero])
            clear he hgc hx hkk hd hin hle
            go_wp2
            go_roundg (n - (i + 1))
            case measure => have := HD.out; omega
            case rel => exact ⟨i + 1, HD.out, rfl, rfl, by rw [HS2.out], rfl⟩
        · have hdi : ¬ (i : Int) < (n : Int) := by omega
          have hdi' : decide (i < n) = false := decide_eq_false hd
          obtain rfl : i = n := by omega
          have hkn : k = leftN at' L := by rw [hkk]; congr 1; rw [HLN.out, List.take_length]
          have HAK := Lib.hid (shAck_any p _ at' w4 HB4.out)
          have HDU := Lib.hid (shDue_any p _ at' ao c L i HLN.out win w4 HB4.out (HA.out.kept HK4.out) (by have := HSM.out; omega))
          have HRD := Lib.hid (fun w' (kk : Kept (fun _ => False) W w') => refDue_any at' ao c L i HLN.out win w' (HA.out.kept kk) (by have := HSM.out; omega))
          have HLF := Lib.hid (fun w' (kk : Kept (fun _ => False) W w') => shLeft_any ao c L i HLN.out at' w' (HA.out.kept kk) (by have := HSM.out; omega))
          have hdl : (dueL at' win L).length ≤ 1000 := by have := dueL_len at' win L i; rw [HLN.out, List.take_length] at this; have := HSM.out; have := HLN.out; omega
          have HDL := Lib.hid hdl
          rw [← hkn] at HLF
          clear hkk hkn hd hin hle hdl
          go_wp2_with fail
          refine HAK.out.mono ?_
          rintro e w5 ⟨rfl, rfl⟩
          go_wp2_with fail
          refine HDU.out.mono ?_
          rintro e w5 ⟨v5, rfl, m5⟩
          have HK5 := Lib.hid (HK4.out.trans m5.kept)
          have HM5 := Lib.hid m5
          clear m5
          go_wp2_with fail
          refine (HRD.out w5 HK5.out).mono ?_
          rintro e w6 ⟨v6, rfl, m6⟩
          have HK6 := Lib.hid (HK5.out.trans m6.kept)
          obtain ⟨a5, c5, rfl⟩ := HM5.out.slice
          obtain ⟨a6, c6, rfl⟩ := m6.slice
          have HSP := Lib.hid (refSameSpans_any a5 a6 c5 c6 (dueL at' win L) _ rfl w6 ((HM5.out.at_ cfSp).kept m6.kept) (m6.at_ cfSp) (by have := HDL.out; omega))
          clear m6
          go_wp2_with fail
          refine HSP.out.mono ?_
          rintro e w7 ⟨rfl, k7⟩
          have HK7 := Lib.hid (HK6.out.trans k7)
          clear k7
          go_wp2_with fail
          refine (HLF.out w7 HK7.out).mono ?_
          rintro e w8 ⟨rfl, k8⟩
          have HK8 := Lib.hid (HK7.out.trans k8)
          clear k8
          go_wp2
          go_ret
          exact ⟨rfl, HK8.out⟩
    · have q6 : decide (ack ≤ 4503599627370496) = false := decide_eq_false hp1
      have e4 : at' = 0 := by rw [HAT.out, if_neg (fun h => hp1 h.2)]
      subst e4
      clear hp0 hp1
      go_wp2
      go_loopg [11, 12] n (fun g s11 s12 wr => ∃ i : Nat, i ≤ n ∧ g = n - i ∧ s12 = .int .i64 (i : Int) ∧ s11 = .int .i64 ((leftN ack (L.take i) : Nat) : Int) ∧ w4 = wr)
      case atStart => exact ⟨0, Nat.zero_le _, rfl, rfl, rfl, rfl⟩
      case round =>
        obtain ⟨i, hin, rfl, rfl, rfl, rfl⟩ := hrel
        have hle : leftN ack (L.take i) ≤ i := Nat.le_trans (leftN_le ack (L.take i)) (by rw [List.length_take]; omega)
        obtain ⟨k, hkk⟩ : ∃ k, k = leftN ack (L.take i) := ⟨_, rfl⟩
        rw [← hkk] at hle ⊢
        have HKK := Lib.hid hkk
        by_cases hd : i < n
        · have hdi : (i : Int) < (n : Int) := by omega
          have hdi0 : (0 : Int) ≤ (i : Int) := by omega
          have HD := Lib.hid hd
          have wi : IntKind.i64.wrap ((i : Int) + 1) = ((i + 1 : Nat) : Int) := by have := HSM.out; rw [IntWalk.i64_in _ ⟨by omega, by omega⟩]; omega
          obtain ⟨x, hx⟩ : ∃ x, L[i]? = some x := ⟨_, List.getElem?_eq_getElem (by rw [← HLN.out]; exact hd)⟩
          obtain ⟨gg, oo, hga, hgc⟩ := (HA.out.kept HK4.out) (by rw [← HLN.out]; omega)
          subst hga
          have g1 := hgc i x hx 1 (.int .i64 x.2) rfl
          have HS := Lib.hid (leftN_succ (ack := ack) hx)
          obtain ⟨x1, x2⟩ := x
          dsimp only at g1 HS
          by_cases he : ack < x2
          · have q1 : decide (ack < x2) = true := decide_eq_true he
            have wk : IntKind.i64.wrap ((k : Int) + 1) = ((k + 1 : Nat) : Int) := by have := HSM.out; rw [IntWalk.i64_in _ ⟨by omega, by omega⟩]; omega
            have HS2 : Hid (((k + 1 : Nat) : Int) = ((leftN ack (L.take (i + 1)) : Nat) : Int)) := Lib.hid (by rw [HS.out, if_pos he, ← HKK.out])
            clear he hgc hx hkk hd hin hle
            go_wp2
            go_roundg (n - (i + 1))
            case measure => have := HD.out; omega
            case rel => exact ⟨i + 1, HD.out, rfl, rfl, by rw [← HS2.out]; rfl, rfl⟩
          · have q1 : decide (ack < x2) = false := decide_eq_false he
            have HS2 : Hid (leftN ack (L.take (i + 1)) = k) := Lib.hid (by rw [HS.out, if_neg he, ← HKK.out, Nat.add_zero])
            clear he hgc hx hkk hd hin hle
            go_wp2
            go_roundg (n - (i + 1))
            case measure => have := HD.out; omega
            case rel => exact ⟨i + 1, HD.out, rfl, rfl, by rw [HS2.out], rfl⟩
        · have hdi : ¬ (i : Int) < (n : Int) := by omega
          have hdi' : decide (i < n) = false := decide_eq_false hd
          obtain rfl : i = n := by omega
          have hkn : k = leftN ack L := by rw [hkk]; congr 1; rw [HLN.out, List.take_length]
          have HAK := Lib.hid (shAck_any p _ 0 w4 HB4.out)
          have HDU := Lib.hid (shDue_any p _ 0 ao c L i HLN.out win w4 HB4.out (HA.out.kept HK4.out) (by have := HSM.out; omega))
          have HRD := Lib.hid (fun w' (kk : Kept (fun _ => False) W w') => refDue_any 0 ao c L i HLN.out win w' (HA.out.kept kk) (by have := HSM.out; omega))
          have HLF := Lib.hid (fun w' (kk : Kept (fun _ => False) W w') => shLeft_any ao c L i HLN.out ack w' (HA.out.kept kk) (by have := HSM.out; omega))
          have hdl : (dueL 0 win L).length ≤ 1000 := by have := dueL_len 0 win L i; rw [HLN.out, List.take_length] at this; have := HSM.out; have := HLN.out; omega
          have HDL := Lib.hid hdl
          rw [← hkn] at HLF
          clear hkk hkn hd hin hle hdl
          go_wp2_with fail
          refine HAK.out.mono ?_
          rintro e w5 ⟨rfl, rfl⟩
          go_wp2_with fail
          refine HDU.out.mono ?_
          rintro e w5 ⟨v5, rfl, m5⟩
          have HK5 := Lib.hid (HK4.out.trans m5.kept)
          have HM5 := Lib.hid m5
          clear m5
          go_wp2_with fail
          refine (HRD.out w5 HK5.out).mono ?_
          rintro e w6 ⟨v6, rfl, m6⟩
          have HK6 := Lib.hid (HK5.out.trans m6.kept)
          obtain ⟨a5, c5, rfl⟩ := HM5.out.slice
          obtain ⟨a6, c6, rfl⟩ := m6.slice
          have HSP := Lib.hid (refSameSpans_any a5 a6 c5 c6 (dueL 0 win L) _ rfl w6 ((HM5.out.at_ cfSp).kept m6.kept) (m6.at_ cfSp) (by have := HDL.out; omega))
          clear m6
          go_wp2_with fail
          refine HSP.out.mono ?_
          rintro e w7 ⟨rfl, k7⟩
          have HK7 := Lib.hid (HK6.out.trans k7)
          clear k7
          go_wp2_with fail
          refine (HLF.out w7 HK7.out).mono ?_
          rintro e w8 ⟨rfl, k8⟩
          have HK8 := Lib.hid (HK7.out.trans k8)
          clear k8
          go_wp2
          go_ret
          exact ⟨rfl, HK8.out⟩
  · have q5 : decide (0 < ack) = false := decide_eq_false hp0
    have e4 : at' = 0 := by rw [HAT.out, if_neg (fun h => hp0 h.1)]
    subst e4
    clear hp0
    go_wp2
    go_loopg [11, 12] n (fun g s11 s12 wr => ∃ i : Nat, i ≤ n ∧ g = n - i ∧ s12 = .int .i64 (i : Int) ∧ s11 = .int .i64 ((leftN ack (L.take i) : Nat) : Int) ∧ w4 = wr)
    case atStart => exact ⟨0, Nat.zero_le _, rfl, rfl, rfl, rfl⟩
    case round =>
      obtain ⟨i, hin, rfl, rfl, rfl, rfl⟩ := hrel
      have hle : leftN ack (L.take i) ≤ i := Nat.le_trans (leftN_le ack (L.take i)) (by rw [List.length_take]; omega)
      obtain ⟨k, hkk⟩ : ∃ k, k = leftN ack (L.take i) := ⟨_, rfl⟩
      rw [← hkk] at hle ⊢
      have HKK := Lib.hid hkk
      by_cases hd : i < n
      · have hdi : (i : Int) < (n : Int) := by omega
        have hdi0 : (0 : Int) ≤ (i : Int) := by omega
        have HD := Lib.hid hd
        have wi : IntKind.i64.wrap ((i : Int) + 1) = ((i + 1 : Nat) : Int) := by have := HSM.out; rw [IntWalk.i64_in _ ⟨by omega, by omega⟩]; omega
        obtain ⟨x, hx⟩ : ∃ x, L[i]? = some x := ⟨_, List.getElem?_eq_getElem (by rw [← HLN.out]; exact hd)⟩
        obtain ⟨gg, oo, hga, hgc⟩ := (HA.out.kept HK4.out) (by rw [← HLN.out]; omega)
        subst hga
        have g1 := hgc i x hx 1 (.int .i64 x.2) rfl
        have HS := Lib.hid (leftN_succ (ack := ack) hx)
        obtain ⟨x1, x2⟩ := x
        dsimp only at g1 HS
        by_cases he : ack < x2
        · have q1 : decide (ack < x2) = true := decide_eq_true he
          have wk : IntKind.i64.wrap ((k : Int) + 1) = ((k + 1 : Nat) : Int) := by have := HSM.out; rw [IntWalk.i64_in _ ⟨by omega, by omega⟩]; omega
          have HS2 : Hid (((k + 1 : Nat) : Int) = ((leftN ack (L.take (i + 1)) : Nat) : Int)) := Lib.hid (by rw [HS.out, if_pos he, ← HKK.out])
          clear he hgc hx hkk hd hin hle
          go_wp2
          go_roundg (n - (i + 1))
          case measure => have := HD.out; omega
          case rel => exact ⟨i + 1, HD.out, rfl, rfl, by rw [← HS2.out]; rfl, rfl⟩
        · have q1 : decide (ack < x2) = false := decide_eq_false he
          have HS2 : Hid (leftN ack (L.take (i + 1)) = k) := Lib.hid (by rw [HS.out, if_neg he, ← HKK.out, Nat.add_zero])
          clear he hgc hx hkk hd hin hle
          go_wp2
          go_roundg (n - (i + 1))
          case measure => have := HD.out; omega
          case rel => exact ⟨i + 1, HD.out, rfl, rfl, by rw [HS2.out], rfl⟩
      · have hdi : ¬ (i : Int) < (n : Int) := by omega
        have hdi' : decide (i < n) = false := decide_eq_false hd
        obtain rfl : i = n := by omega
        have hkn : k = leftN ack L := by rw [hkk]; congr 1; rw [HLN.out, List.take_length]
        have HAK := Lib.hid (shAck_any p _ 0 w4 HB4.out)
        have HDU := Lib.hid (shDue_any p _ 0 ao c L i HLN.out win w4 HB4.out (HA.out.kept HK4.out) (by have := HSM.out; omega))
        have HRD := Lib.hid (fun w' (kk : Kept (fun _ => False) W w') => refDue_any 0 ao c L i HLN.out win w' (HA.out.kept kk) (by have := HSM.out; omega))
        have HLF := Lib.hid (fun w' (kk : Kept (fun _ => False) W w') => shLeft_any ao c L i HLN.out ack w' (HA.out.kept kk) (by have := HSM.out; omega))
        have hdl : (dueL 0 win L).length ≤ 1000 := by have := dueL_len 0 win L i; rw [HLN.out, List.take_length] at this; have := HSM.out; have := HLN.out; omega
        have HDL := Lib.hid hdl
        rw [← hkn] at HLF
        clear hkk hkn hd hin hle hdl
        go_wp2_with fail
        refine HAK.out.mono ?_
        rintro e w5 ⟨rfl, rfl⟩
        go_wp2_with fail
        refine HDU.out.mono ?_
        rintro e w5 ⟨v5, rfl, m5⟩
        have HK5 := Lib.hid (HK4.out.trans m5.kept)
        have HM5 := Lib.hid m5
        clear m5
        go_wp2_with fail
        refine (HRD.out w5 HK5.out).mono ?_
        rintro e w6 ⟨v6, rfl, m6⟩
        have HK6 := Lib.hid (HK5.out.trans m6.kept)
        obtain ⟨a5, c5, rfl⟩ := HM5.out.slice
        obtain ⟨a6, c6, rfl⟩ := m6.slice
        have HSP := Lib.hid (refSameSpans_any a5 a6 c5 c6 (dueL 0 win L) _ rfl w6 ((HM5.out.at_ cfSp).kept m6.kept) (m6.at_ cfSp) (by have := HDL.out; omega))
        clear m6
        go_wp2_with fail
        refine HSP.out.mono ?_
        rintro e w7 ⟨rfl, k7⟩
        have HK7 := Lib.hid (HK6.out.trans k7)
        clear k7
        go_wp2_with fail
        refine (HLF.out w7 HK7.out).mono ?_
        rintro e w8 ⟨rfl, k8⟩
        have HK8 := Lib.hid (HK7.out.trans k8)
        clear k8
        go_wp2
        go_ret
        exact ⟨rfl, HK8.out⟩
end Go.Proofs.YtficodklidaheaaDoor
/- What the listed variable gives the walks. -/
namespace Go.Proofs.YtficodklidaheaaDoor
open Go.ChangeShapes Go.WideShapes Go.ChangeAt Go.RowKit

theorem gNib : Tryd.prog.globalNamed "limnograph/crc.nibbles" = some 0 := by kernel_rfl
theorem tNib : (Tryd.prog.globals[0]?).map (·.type) = some 142 := by kernel_rfl
theorem door_met (os : Os) (args : Array Value) : laidMetH Tryd.prog [("limnograph/crc.nibbles", Rows.laid_limnograph_crc_nibbles)] ((World.doorLaid Tryd.prog 400 os).forCall (fun _ _ => 0) ⟨#[], args, []⟩).memory :=
  laidMetH_of_parts3 (fuel := 8) (laidMet_of_run' 8 (by kernel_rfl) (by kernel_rfl)) (by kernel_rfl) (by kernel_rfl)
theorem nibs_of_laid {W : World} (h : laidMetH Tryd.prog [("limnograph/crc.nibbles", Rows.laid_limnograph_crc_nibbles)] W) : Nibs W := by
  rw [MakeChecks.laidMetH_plain _ _ _ (by kernel_rfl)] at h
  obtain ⟨ps, ⟨g0, t0, cs0, f0, p0, q0, hg0, ht0, hv0, hd0, _, _⟩, _, _⟩ := h
  obtain rfl := Option.some.inj (gNib.symm.trans hg0)
  obtain rfl := Option.some.inj (tNib.symm.trans ht0)
  have hcs := Lib.cells_of_tab (zs := nibL.map fun (x : Nat) => (x : Int)) Tryd.underlying142 Tryd.underlying104 (by kernel_rfl) (by kernel_rfl) hd0
  intro j hj
  have hc := World.var?_cell hg0 hv0 j
  rw [hc]
  have e : cs0[j]? = cs0.toList[j]? := by simp
  rw [e, hcs]
  have hl : j < nibL.length := hj
  simp [List.getElem?_map, List.getElem?_eq_getElem hl, List.getD_eq_getElem?_getD]
end Go.Proofs.YtficodklidaheaaDoor
