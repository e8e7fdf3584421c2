/- Layer 23: the walk of NetMost. -/
import Derived.Test.YtkidbbmdlmnokaaU8
namespace Go.Proofs.Ytkidbbmdlmnokaa
open Go.RowKit
attribute [local go_sem ↓] Go.wp_at_zero Go.wp_at_succ

/-- A net of n messages that are alike, and the message in its own block. -/
structure SM (W w : World) (nb q : Nat) (h : Int) (n : Nat) (L : List Mg) (ao : Option Addr) (cp : Nat) : Prop where
  ns : NS W w nb L ao cp
  len : L.length = n
  mb : MB w q true h (.slice none 0 0)
  far : ∀ k, (Value.slice ao L.length cp).ownBlock = some k → q < k
section
variable {W w w' : World} {nb q n cp : Nat} {h : Int} {L : List Mg} {ao : Option Addr}
theorem SM.grew {t : Tl} (s : SM W w nb q h n L ao cp) (g : GrewTo W w nb L ao cp t w') : ∃ L' ao' cp', SM W w' nb q h (n + 1) L' ao' cp' := by
  obtain ⟨m, ao', cp', _, hn, _, hk, hat⟩ := g
  refine ⟨L ++ [m], ao', cp', hn, by rw [List.length_append, s.len]; rfl, hk.same s.mb (fun e => ?_), fun k e => ?_⟩
  · rcases e with e | e
    · exact box_ne s.mb s.ns.box (by decide) e
    · have := s.far _ e; omega
  · rcases hat with h1 | ⟨j, h1, h2⟩
    · exact s.far k (h1 ▸ e)
    · rw [h1] at e
      injection e with e
      have := s.mb.lt
      omega
theorem SM.kept (s : SM W w nb q h n L ao cp) (k : Kept (fun _ => False) w w') : SM W w' nb q h n L ao cp :=
  ⟨s.ns.kept k, s.len, k.same s.mb (fun x => x), s.far⟩
theorem nilAt (w : World) : SlAt w (.slice none 0 0) (u8s []) := ⟨none, 0, rfl, fun _ => rfl, fun a ha => by cases ha⟩
theorem SM.send (s : SM W w nb q h n L ao cp) (hn : n ≤ 4096) (h0 : 0 ≤ h) (h1 : h ≤ 1000) :
    Calls Try.prog 15 #[.pointer (some ⟨nb, 0, none⟩), .agg #[.bool true, .int .i64 h, .slice none 0 0]] w fun e w' => e = .returned (.bool (decide (n < 4096))) ∧ ∃ L' ao' cp', SM W w' nb q h (if n < 4096 then n + 1 else n) L' ao' cp' := by
  refine (netSend_any W nb L ao cp true h none 0 0 [] rfl w s.ns (nilAt _) (by omega) (by rw [s.len]; omega) (by simp)).mono ?_
  intro e w' hs
  obtain ⟨rfl, h2, h3⟩ := hs.parts
  have hb : sendB L ⟨true, h, []⟩ = decide (n < 4096) := by
    unfold sendB rightB
    rw [s.len]
    simp [h0]
    omega
  rw [hb] at h2 h3 ⊢
  refine ⟨rfl, ?_⟩
  by_cases hc : n < 4096
  · rw [if_pos hc]
    exact s.grew (h3 (decide_eq_true hc))
  · rw [if_neg hc]
    exact ⟨L, ao, cp, s.kept (h2 (decide_eq_false hc))⟩
theorem SM.double (s : SM W w nb q h n L ao cp) (hn : n ≤ 4096) (i : Int) (h0 : 0 ≤ i) (hi : i < (n : Int)) :
    Calls Try.prog 20 #[.pointer (some ⟨nb, 0, none⟩), .int .i64 i] w fun e w' => e = .returned (.bool (decide (n < 4096))) ∧ ∃ L' ao' cp', SM W w' nb q h (if n < 4096 then n + 1 else n) L' ao' cp' := by
  refine (netDouble_any W nb L ao cp i w s.ns (by rw [s.len]; omega)).mono ?_
  rintro e w' ⟨rfl, h2, h3⟩
  have hb : doubleB L i = decide (n < 4096) := by
    unfold doubleB
    rw [show hasB L i = true from decide_eq_true ⟨h0, by rw [s.len]; exact hi⟩, s.len, Bool.true_and]
  rw [hb] at h2 h3 ⊢
  refine ⟨rfl, ?_⟩
  by_cases hc : n < 4096
  · rw [if_pos hc]
    exact s.grew (h3 (decide_eq_true hc))
  · rw [if_neg hc]
    exact ⟨L, ao, cp, s.kept (h2 (decide_eq_false hc))⟩
theorem SM.take (s : SM W w nb q h n L ao cp) (hn : n ≤ 4096) (i : Int) (h0 : 0 ≤ i) (hi : i < (n : Int)) :
    Calls Try.prog 17 #[.pointer (some ⟨nb, 0, none⟩), .int .i64 i] w fun e w' => ∃ x : Mg, e = .returned (.tuple #[.agg #[.bool x.ack, .int .i64 x.have_, .slice x.a x.b.length x.c], .bool true]) ∧ ∃ L' ao' cp', SM W w' nb q h (n - 1) L' ao' cp' := by
  refine (netTake_any W nb L ao cp i w s.ns (by rw [s.len]; omega)).mono ?_
  rintro e w' ⟨x, rfl, _, _, hns, hk⟩
  have hb : hasB L i = true := decide_eq_true ⟨h0, by rw [s.len]; exact hi⟩
  rw [hb]
  refine ⟨x, rfl, takeL L i, ao, cp, hns, ?_, hk.same s.mb (fun e => ?_), fun k e => s.far k ?_⟩
  · unfold takeL
    rw [if_pos hb, List.length_eraseIdx, if_pos (by rw [s.len]; omega), s.len]
  · rcases e with e | e
    · exact box_ne s.mb s.ns.box (by decide) e
    · have := s.far _ e; omega
  · cases ao <;> exact e
end
set_option maxHeartbeats 4000000 in
set_option maxRecDepth 100000 in
theorem netMost_walk (have_ : Int) (W : World) (hm : -9223372036854775808 ≤ have_ ∧ have_ ≤ 9223372036854775807) :
    Calls Try.prog 4 #[.int .i64 have_] W fun e w' => e = .returned (.bool true) ∧ Kept (fun _ => False) W w' := by
  have HA := Lib.hid (awake23_any W)
  go_enter Try.func4, Try.ntmps4
  go_wp2_with fail
  refine HA.out.mono ?_
  rintro e w1 ⟨rfl, k1⟩
  have HK1 := Lib.hid k1
  clear k1
  go_wp2_with fail
  refine (netNew_any w1).mono ?_
  rintro e w2 ⟨nb, rfl, hn2, k2⟩
  have HN2 := Lib.hid hn2
  have HK2 := Lib.hid (HK1.out.trans k2)
  clear hn2 k2
  go_upto_region 4 with fail
  go_cut [4] (fun s4 wc => ∃ q h, s4 = .pointer (some ⟨q, 0, none⟩) ∧ 0 ≤ h ∧ h ≤ 1000 ∧ SM w1 wc nb q h 0 [] none 0)
  case first =>
    have HB : Hid (∀ h : Int, SM w1 (w2.alloc (.cells #[.bool true, .int .i64 h, .slice none 0 0] 29)) nb w2.heap.size h 0 [] none 0) := Lib.hid (fun h => ⟨HN2.out.kept ((Kept.refl _ _).alloc _), rfl, heap_alloc_new w2 _, fun k e => by cases e⟩)
    by_cases h0 : have_ < 0
    · have q0 : ¬ (0 : Int) < have_ := by omega
      have q1 : max have_ 0 = 0 := by omega
      go_wp2
      go_meet
      case rel => exact ⟨_, 0, rfl, by omega, by omega, HB.out 0⟩
    · by_cases h1 : have_ ≤ 1000
      · have q0 : (0 : Int) ≤ have_ := by omega
        have q1 : max have_ 0 = have_ := by omega
        have q2 : min have_ 1000 = have_ := by omega
        go_wp2
        all_goals
          go_meet
          case rel => exact ⟨_, _, rfl, by omega, by omega, HB.out _⟩
      · have q0 : (0 : Int) ≤ have_ := by omega
        have q1 : max have_ 0 = have_ := by omega
        have q2 : min have_ 1000 = 1000 := by omega
        go_wp2
        all_goals
          go_meet
          case rel => exact ⟨_, _, rfl, by omega, by omega, HB.out _⟩
  case rest =>
    obtain ⟨q, h, rfl, h0, h1, hsm⟩ := hcut
    have HSM := Lib.hid hsm
    have HH := Lib.hid (And.intro h0 h1)
    clear hsm h0 h1
    go_upto_region 6 with fail
    go_loopg [5] 4096 (fun G s5 wr => ∃ i : Nat, i ≤ 4096 ∧ G = 4096 - i ∧ s5 = .int .i64 i ∧ ∃ L ao cp, SM w1 wr nb q h i L ao cp)
    case atStart => exact ⟨0, Nat.zero_le _, rfl, rfl, [], none, 0, HSM.out⟩
    case round =>
      obtain ⟨i, hin, rfl, rfl, L, ao, cp, hs⟩ := hrel
      have HS := Lib.hid hs
      obtain ⟨b0, b1, b2⟩ := hs.mb.c
      clear hs
      by_cases hd : i < 4096
      · have hdi : (i : Int) < 4096 := by omega
        have wi : IntKind.i64.wrap ((i : Int) + 1) = ((i + 1 : Nat) : Int) := by rw [IntWalk.i64_in _ ⟨by omega, by omega⟩]; omega
        have HD := Lib.hid hd
        have HC := Lib.hid (HS.out.send (by omega) HH.out.1 HH.out.2)
        rw [decide_eq_true hd, if_pos hd] at HC
        clear hd hin
        go_wp2_with fail
        refine HC.out.mono ?_
        rintro e w4 ⟨rfl, L', ao', cp', hs'⟩
        have HS' := Lib.hid hs'
        clear hs' b0 b1 b2
        go_wp2
        go_roundg (4096 - (i + 1))
        case measure => have := HD.out; omega
        case rel => exact ⟨i + 1, HD.out, rfl, rfl, L', ao', cp', HS'.out⟩
      · obtain rfl : i = 4096 := by omega
        have HC := Lib.hid (HS.out.send (by omega) HH.out.1 HH.out.2)
        rw [decide_eq_false hd, if_neg hd] at HC
        have hdi : ¬ (4096 : Int) < 4096 := by omega
        clear hd hin
        go_wp2_with fail
        refine HC.out.mono ?_
        rintro e w4 ⟨rfl, L4, ao4, cp4, hs4⟩
        have HS4 := Lib.hid hs4
        have HC4 := Lib.hid (hs4.double (by omega) 0 (by omega) (by omega))
        rw [decide_eq_false (by omega), if_neg (by omega)] at HC4
        clear hs4 b0 b1 b2
        go_wp2_with fail
        refine HC4.out.mono ?_
        rintro e w5 ⟨rfl, L5, ao5, cp5, hs5⟩
        have HS5 := Lib.hid hs5
        have HL5 := Lib.hid (netLen_any w1 nb L5 ao5 cp5 w5 hs5.ns)
        rw [hs5.len] at HL5
        clear hs5
        go_wp2_with fail
        refine HL5.out.mono ?_
        rintro e w6 ⟨rfl, rfl⟩
        have HT := Lib.hid (HS5.out.take (by omega) 4095 (by omega) (by omega))
        go_wp2_with fail
        refine HT.out.mono ?_
        rintro e w7 ⟨⟨xk, xh, xa, xc, xb⟩, rfl, L7, ao7, cp7, hs7⟩
        dsimp only
        obtain ⟨nx, hnx⟩ : ∃ nx, nx = xb.length := ⟨_, rfl⟩
        rw [← hnx]
        have HS8 := Lib.hid (hs7.kept ((Kept.refl (fun _ => False) w7).alloc (.cells #[.bool xk, .int .i64 xh, .slice xa nx xc] 29)))
        obtain ⟨w8, hw8⟩ : ∃ w8, w8 = w7.alloc (.cells #[.bool xk, .int .i64 xh, .slice xa nx xc] 29) := ⟨_, rfl⟩
        rw [← hw8] at HS8
        have HC8 := Lib.hid (HS8.out.double (by omega) 0 (by omega) (by omega))
        rw [decide_eq_true (by omega), if_pos (by omega)] at HC8
        clear hs7 hnx
        go_upto_region 13 with fail
        rw [← hw8]
        clear hw8
        go_wp2_with fail
        refine HC8.out.mono ?_
        rintro e w9 ⟨rfl, L9, ao9, cp9, hs9⟩
        have HC9 := Lib.hid (hs9.double (by omega) 1 (by omega) (by omega))
        rw [decide_eq_false (by omega), if_neg (by omega)] at HC9
        clear hs9
        go_wp2_with fail
        refine HC9.out.mono ?_
        rintro e w10 ⟨rfl, L10, ao10, cp10, hs10⟩
        have HK10 := Lib.hid (HK1.out.trans hs10.ns.row.kept)
        clear hs10
        go_wp2
        go_ret
        exact ⟨rfl, HK10.out⟩
end Go.Proofs.Ytkidbbmdlmnokaa
