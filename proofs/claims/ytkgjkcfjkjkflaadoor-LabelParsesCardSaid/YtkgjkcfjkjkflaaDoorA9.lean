/- Layer 11: SortStableFunc for few, label.Sorted. -/
import Derived.Test.YtkgjkcfjkjkflaaDoorA8
namespace Go.Proofs.YtkgjkcfjkjkflaaDoor
open Go.RowKit
attribute [local go_sem ↓] Go.wp_at_zero Go.wp_at_succ

/-- No element: nothing is done. -/
theorem insertion_none (v : Value) (a b : Nat) (f : Value) (h : b ≤ a + 1) (ha : a ≤ 1000) (w : World) :
    Calls Tryd.prog 42 #[v, .int .i64 a, .int .i64 b, f] w fun e w' => e = .returned (.tuple #[]) ∧ w = w' := by
  have wa : IntKind.i64.wrap ((a : Int) + 1) = ((a + 1 : Nat) : Int) := by rw [IntWalk.i64_in _ ⟨by omega, by omega⟩]; omega
  obtain ⟨a1, ha1⟩ : ∃ k, k = a + 1 := ⟨_, rfl⟩
  rw [← ha1] at wa
  have hab : ¬ (a1 : Int) < (b : Int) := by omega
  have hab2 : decide (a1 < b) = false := decide_eq_false (by omega)
  clear h ha ha1
  go_enter Tryd.func42, Tryd.ntmps42
  go_wp2
  go_loopg [8] 0 (fun g s8 wr => g = 0 ∧ s8 = .int .i64 a1 ∧ w = wr)
  case atStart => exact ⟨rfl, rfl, rfl⟩
  case round =>
    obtain ⟨rfl, rfl, rfl⟩ := hrel
    go_wp2
    go_end0
    exact ⟨rfl, rfl⟩

set_option maxHeartbeats 4000000 in
theorem stable_any (W : World) (g c n : Nat) (L : List Pr) (w : World) (hm : MineP W w (.slice (some ⟨g, 0, none⟩) n c) L) (hn : L.length = n) (hl : n ≤ 20) :
    Calls Tryd.prog 36 #[.slice (some ⟨g, 0, none⟩) n c, .int .i64 n, .func (.func 24) #[] #[]] w fun e w' => e = .returned (.tuple #[]) ∧ MineP W w' (.slice (some ⟨g, 0, none⟩) n c) (sortP L) := by
  have HI := Lib.hid fun w (h : MineP W w (.slice (some ⟨g, 0, none⟩) n c) L) => insertion_any W g c n L w h hn (by omega)
  have HM := Lib.hid hm
  by_cases h20 : n = 20
  · subst h20
    have HNO := Lib.hid fun v f w => insertion_none v 20 20 f (by omega) (by omega) w
    clear hm hn hl
    go_enter Tryd.func36, Tryd.ntmps36
    go_wp2
    go_loopg [7, 8] 1 (fun g2 s7 s8 wr => (g2 = 1 ∧ s7 = .int .i64 0 ∧ s8 = .int .i64 20 ∧ wr = w) ∨ (g2 = 0 ∧ s7 = .int .i64 20 ∧ s8 = .int .i64 40 ∧ MineP W wr (.slice (some ⟨g, 0, none⟩) 20 c) (sortP L)))
    case atStart => exact .inl ⟨rfl, rfl, rfl, rfl⟩
    case round =>
      rcases hrel with ⟨rfl, rfl, rfl, rfl⟩ | ⟨rfl, rfl, rfl, hx⟩
      · go_wp2_with fail
        refine (HI.out _ HM.out).mono ?_
        rintro e w1 ⟨rfl, hx⟩
        have HX := Lib.hid hx
        clear hx
        go_wp2
        go_roundg 0
        case measure => omega
        case rel => exact .inr ⟨rfl, rfl, rfl, HX.out⟩
      · have HX := Lib.hid hx
        clear hx
        go_wp2_with fail
        refine (HNO.out _ _ _).mono ?_
        rintro e w1 ⟨rfl, rfl⟩
        go_wp2
        go_loopg [6] 0 (fun g2 s6 ws => g2 = 0 ∧ s6 = .int .i64 20 ∧ MineP W ws (.slice (some ⟨g, 0, none⟩) 20 c) (sortP L))
        case atStart => exact ⟨rfl, rfl, HX.out⟩
        case round =>
          obtain ⟨rfl, rfl, hx⟩ := hrel
          have HX2 := Lib.hid hx
          clear hx
          go_wp2
          go_end0
          exact ⟨rfl, HX2.out⟩
  · have hq : ¬ (20 : Int) ≤ (n : Int) := by omega
    have hq2 : decide (20 ≤ n) = false := decide_eq_false (by omega)
    have hr : ¬ (20 : Int) < (n : Int) := by omega
    have hr2 : decide (20 < n) = false := decide_eq_false (by omega)
    clear hm hn hl h20
    go_enter Tryd.func36, Tryd.ntmps36
    go_wp2
    go_loopg [7, 8] 0 (fun g2 s7 s8 wr => g2 = 0 ∧ s7 = .int .i64 0 ∧ s8 = .int .i64 20 ∧ wr = w)
    case atStart => exact ⟨rfl, rfl, rfl, rfl⟩
    case round =>
      obtain ⟨rfl, rfl, rfl, rfl⟩ := hrel
      go_wp2_with fail
      refine (HI.out _ HM.out).mono ?_
      rintro e w1 ⟨rfl, hx⟩
      have HX := Lib.hid hx
      clear hx
      go_wp2
      go_loopg [6] 0 (fun g2 s6 ws => g2 = 0 ∧ s6 = .int .i64 20 ∧ MineP W ws (.slice (some ⟨g, 0, none⟩) n c) (sortP L))
      case atStart => exact ⟨rfl, rfl, HX.out⟩
      case round =>
        obtain ⟨rfl, rfl, hx⟩ := hrel
        have HX2 := Lib.hid hx
        clear hx
        go_wp2
        go_end0
        exact ⟨rfl, HX2.out⟩

set_option maxHeartbeats 1000000 in
theorem stable_none (w : World) :
    Calls Tryd.prog 36 #[.slice none 0 0, .int .i64 0, .func (.func 24) #[] #[]] w fun e w' => e = .returned (.tuple #[]) ∧ w = w' := by
  have HNO := Lib.hid fun v f w => insertion_none v 0 0 f (by omega) (by omega) w
  go_enter Tryd.func36, Tryd.ntmps36
  go_wp2
  go_loopg [7, 8] 0 (fun g2 s7 s8 wr => g2 = 0 ∧ s7 = .int .i64 0 ∧ s8 = .int .i64 20 ∧ wr = w)
  case atStart => exact ⟨rfl, rfl, rfl, rfl⟩
  case round =>
    obtain ⟨rfl, rfl, rfl, rfl⟩ := hrel
    go_wp2_with fail
    refine (HNO.out _ _ _).mono ?_
    rintro e w1 ⟨rfl, rfl⟩
    go_wp2
    go_loopg [6] 0 (fun g2 s6 ws => g2 = 0 ∧ s6 = .int .i64 20 ∧ wr = ws)
    case atStart => exact ⟨rfl, rfl, rfl⟩
    case round =>
      obtain ⟨rfl, rfl, rfl⟩ := hrel
      go_wp2
      go_end0
      exact ⟨rfl, rfl⟩
theorem sortStable_any (W : World) (v : Value) (L : List Pr) (w : World) (hm : MineP W w v L) (hl : L.length ≤ 20) :
    Calls Tryd.prog 23 #[v, .func (.func 24) #[] #[]] w fun e w' => e = .returned (.tuple #[]) ∧ MineP W w' v (sortP L) := by
  rcases hm.own.2 with ⟨e, h0⟩ | ⟨g, cap, cur, e, _⟩
  · obtain rfl : L = [] := List.length_eq_zero_iff.1 h0
    subst e
    have HS := Lib.hid (stable_none w)
    have HM := Lib.hid hm
    clear hm hl h0
    go_enter Tryd.func23, Tryd.ntmps23
    go_wp2_with fail
    refine HS.out.mono ?_
    rintro e w1 ⟨rfl, rfl⟩
    go_wp2
    go_end0
    exact ⟨rfl, HM.out⟩
  · obtain ⟨n, hn⟩ : ∃ n, n = L.length := ⟨_, rfl⟩
    rw [← hn] at e hl
    subst e
    have HS := Lib.hid (stable_any W g cap n L w hm hn.symm hl)
    clear hm hl hn
    go_enter Tryd.func23, Tryd.ntmps23
    go_wp2_with fail
    refine HS.out.mono ?_
    rintro e w1 ⟨rfl, hm⟩
    go_wp2
    go_end0
    exact ⟨rfl, hm⟩

theorem sorted_any (ao : Option Addr) (c : Nat) (L : List Pr) (w : World) (hv : PsAt w ao L) (hl : L.length ≤ 20) :
    Calls Tryd.prog 13 #[.slice ao L.length c] w fun e w' => ∃ v, e = .returned v ∧ MineP w w' v (sortP L) := by
  have HC := Lib.hid (pclone_any ao c L w hv (by omega))
  have HL := Lib.hid hl
  obtain ⟨n, hn⟩ : ∃ n, n = L.length := ⟨_, rfl⟩
  rw [← hn] at HC ⊢
  clear hv hl hn
  go_enter Tryd.func13, Tryd.ntmps13
  go_wp2_with fail
  refine HC.out.mono ?_
  rintro e w1 ⟨v, rfl, hm⟩
  have HS := Lib.hid (sortStable_any w v L w1 hm HL.out)
  clear hm
  go_wp2_with fail
  refine HS.out.mono ?_
  rintro e w2 ⟨rfl, hm⟩
  go_wp2
  go_ret
  exact ⟨v, rfl, hm⟩
end Go.Proofs.YtkgjkcfjkjkflaaDoor
