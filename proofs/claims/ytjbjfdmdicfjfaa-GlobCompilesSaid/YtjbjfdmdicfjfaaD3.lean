/- package glob, layer 32: thing. -/
import Derived.Test.YtjbjfdmdicfjfaaD2
import Derived.Test.YtjbjfdmdicfjfaaRS
namespace Go.Proofs.Ytjbjfdmdicfjfaa
open Go.RowKit
attribute [local go_sem ↓] Go.wp_at_zero Go.wp_at_succ

/-- What thing answers. -/
def ThingTo (l : List Nat) (e : Ending) : Prop := ∃ (a b n : Nat) (ok : Bool), e = .returned (.tuple #[.int .u8 (a : Int), .int .u8 (b : Int), .int .i64 (n : Int), .bool ok]) ∧ ((thingL l = some (a, b, n) ∧ ok = true) ∨ (thingL l = none ∧ ok = false))
set_option maxHeartbeats 2000000 in
theorem thing_any (s : ByteArray) (w : World) (h0 : 0 < s.size) (hs : s.size ≤ 1000000) (hk : (byteL (bl s)).2 ≤ s.size) :
    Calls Try.prog 28 #[.string s] w fun e w' => ThingTo (bl s) e ∧ w = w' := by
  have hS0 : ∀ w, (Instr.index 9 (.string s) (.int .i64 0)).run Try.prog w = .ok (.int .u8 (chr s 0 : Int)) w := fun w => run_chr Try.underlying9 s 0 h0 w
  by_cases hc : chr s 0 = 45
  · rw [hc] at hS0
    by_cases h1 : s.size = 1
    · have HX := Lib.hid (show ThingTo (bl s) (.returned (.tuple #[.int .u8 45, .int .u8 45, .int .i64 1, .bool true])) from ⟨45, 45, 1, true, rfl, .inl ⟨by unfold thingL; rw [bl_getD, if_pos hc, bl_length, if_pos h1], rfl⟩⟩)
      have q : ((s.size : Int) == 1) = true := by simp [h1]
      have q' : (s.size == 1) = true := by simp [h1]
      clear hc h0 hs h1 hk
      go_enter Try.func28, Try.ntmps28
      go_wp2
      refine bodyPost_ret (results_tmp4 Try.results28 _ _ _) rfl ?_
      exact ⟨HX.out, rfl⟩
    · have HX := Lib.hid (show ThingTo (bl s) (.returned (.tuple #[.int .u8 45, .int .u8 45, .int .i64 1, .bool false])) from ⟨45, 45, 1, false, rfl, .inr ⟨by unfold thingL; rw [bl_getD, if_pos hc, bl_length, if_neg h1], rfl⟩⟩)
      have q : ((s.size : Int) == 1) = false := by simp; omega
      have q' : (s.size == 1) = false := by simp; omega
      clear hc h0 hs h1 hk
      go_enter Try.func28, Try.ntmps28
      go_wp2
      refine bodyPost_ret (results_tmp4 Try.results28 _ _ _) rfl ?_
      exact ⟨HX.out, rfl⟩
  have HB := Lib.hid (byteOf_any s · h0 (by omega))
  have hcut := run_from (P := Try.prog) Try.underlying9 s (byteL (bl s)).2 hk
  have hbr := bl_from s (byteL (bl s)).2
  have hszr := size_from s (byteL (bl s)).2
  have hT : thingL (bl s) = if ((bl s).drop (byteL (bl s)).2).length < 2 ∨ ((bl s).drop (byteL (bl s)).2).getD 0 0 ≠ 45 ∨ ((bl s).drop (byteL (bl s)).2).getD 1 0 = 45 then some ((byteL (bl s)).1, (byteL (bl s)).1, (byteL (bl s)).2)
      else if (byteL (bl s)).1 ≤ (byteL (((bl s).drop (byteL (bl s)).2).drop 1)).1 then some ((byteL (bl s)).1, (byteL (((bl s).drop (byteL (bl s)).2).drop 1)).1, (byteL (bl s)).2 + 1 + (byteL (((bl s).drop (byteL (bl s)).2).drop 1)).2)
      else none := by rw [thingL, bl_getD, if_neg hc]
  have hp := byteL_pos (bl s)
  obtain ⟨r, hr⟩ : ∃ r, r = s.extract (byteL (bl s)).2 s.size := ⟨_, rfl⟩
  rw [← hr] at hcut hbr hszr
  rw [← hbr] at hT
  have hlr : r.size ≤ s.size := by omega
  clear hr hbr hszr
  obtain ⟨ck, hck⟩ : ∃ p, p = byteL (bl s) := ⟨_, rfl⟩
  rw [← hck] at HB hcut hT hp hk
  obtain ⟨c, k⟩ := ck
  simp only at HB hcut hT hp hk
  clear hck
  obtain ⟨c0, hc0⟩ : ∃ c, c = chr s 0 := ⟨_, rfl⟩
  rw [← hc0] at hS0 hc
  have q0 : ((c0 : Int) == 45) = false := by simp; omega
  have q0' : (c0 == 45) = false := by simp [hc]
  have hk0 : (0 : Int) ≤ (k : Int) := by omega
  have hk1 : (k : Int) ≤ (s.size : Int) := by omega
  rw [bl_length, bl_getD, bl_getD] at hT
  by_cases h2 : r.size < 2
  · have HX := Lib.hid (show ThingTo (bl s) (.returned (.tuple #[.int .u8 (c : Int), .int .u8 (c : Int), .int .i64 (k : Int), .bool true])) from ⟨c, c, k, true, rfl, .inl ⟨by rw [hT, if_pos (.inl h2)], rfl⟩⟩)
    have q1 : (r.size : Int) < 2 := by omega
    have q2 : decide (r.size < 2) = true := decide_eq_true h2
    clear hc hc0 h0 hs hk hT hp h2 hlr
    go_enter Try.func28, Try.ntmps28
    go_wp2_with fail
    refine (HB.out _).mono ?_
    rintro e w' ⟨rfl, rfl⟩
    go_wp2
    refine bodyPost_ret (results_tmp4 Try.results28 _ _ _) rfl ?_
    exact ⟨HX.out, rfl⟩
  have hR0 : ∀ w, (Instr.index 9 (.string r) (.int .i64 0)).run Try.prog w = .ok (.int .u8 (chr r 0 : Int)) w := fun w => run_chr Try.underlying9 r 0 (by omega) w
  have hR1 : ∀ w, (Instr.index 9 (.string r) (.int .i64 1)).run Try.prog w = .ok (.int .u8 (chr r 1 : Int)) w := fun w => run_chr Try.underlying9 r 1 (by omega) w
  have q1 : ¬ (r.size : Int) < 2 := by omega
  have q2 : decide (r.size < 2) = false := decide_eq_false h2
  by_cases h3 : chr r 0 = 45
  · rw [h3] at hR0
    by_cases h4 : chr r 1 = 45
    · rw [h4] at hR1
      have HX := Lib.hid (show ThingTo (bl s) (.returned (.tuple #[.int .u8 (c : Int), .int .u8 (c : Int), .int .i64 (k : Int), .bool true])) from ⟨c, c, k, true, rfl, .inl ⟨by rw [hT, if_pos (.inr (.inr h4))], rfl⟩⟩)
      clear hc hc0 h0 hs hk hT hp h2 hlr h3 h4
      go_enter Try.func28, Try.ntmps28
      go_wp2_with fail
      refine (HB.out _).mono ?_
      rintro e w' ⟨rfl, rfl⟩
      go_wp2
      refine bodyPost_ret (results_tmp4 Try.results28 _ _ _) rfl ?_
      exact ⟨HX.out, rfl⟩
    · have HB2 := Lib.hid (fun w => byteOf_any (r.extract 1 r.size) w (by rw [size_from]; omega) (by rw [size_from]; omega))
      have hcut2 : ∀ w, (Instr.slice 9 (.string r) (some (.int .i64 1)) none none).run Try.prog w = .ok (.string (r.extract 1 r.size)) w := run_from (P := Try.prog) Try.underlying9 r 1 (by omega)
      rw [bl_from] at HB2
      have hp2 := byteL_pos ((bl r).drop 1)
      obtain ⟨dm, hdm⟩ : ∃ p, p = byteL ((bl r).drop 1) := ⟨_, rfl⟩
      rw [← hdm] at HB2 hT hp2
      obtain ⟨d, m⟩ := dm
      simp only at HB2 hT hp2
      obtain ⟨r2, hr2⟩ : ∃ t, t = r.extract 1 r.size := ⟨_, rfl⟩
      rw [← hr2] at HB2 hcut2
      obtain ⟨x1, hx1⟩ : ∃ c, c = chr r 1 := ⟨_, rfl⟩
      rw [← hx1] at hR1 h4 hT
      have q4 : ((x1 : Int) == 45) = false := by simp; omega
      have q4' : (x1 == 45) = false := by simp [h4]
      have wi : IntKind.i64.wrap ((k : Int) + 1) = ((k + 1 : Nat) : Int) := by rw [IntWalk.i64_in _ ⟨by omega, by omega⟩]; omega
      have wj : IntKind.i64.wrap (((k + 1 : Nat) : Int) + (m : Int)) = ((k + 1 + m : Nat) : Int) := by rw [IntWalk.i64_in _ ⟨by omega, by omega⟩]; omega
      rw [if_neg (by intro h; rcases h with h | h | h; exact h2 h; exact h h3; exact h4 h)] at hT
      by_cases h5 : c ≤ d
      · rw [if_pos h5] at hT
        have HX := Lib.hid (show ThingTo (bl s) (.returned (.tuple #[.int .u8 (c : Int), .int .u8 (d : Int), .int .i64 ((k + 1 + m : Nat) : Int), .bool true])) from ⟨c, d, _, true, rfl, .inl ⟨hT, rfl⟩⟩)
        have q5 : (c : Int) ≤ (d : Int) := by omega
        have q5' : decide (c ≤ d) = true := decide_eq_true h5
        clear hc hc0 h0 hs hk hT hp h2 hlr h3 h4 hdm hp2 hr2 hx1 h5
        obtain ⟨k1, hk1⟩ : ∃ k1, k1 = k + 1 := ⟨_, rfl⟩
        rw [← hk1] at wi wj HX
        clear hk1
        obtain ⟨k2, hk2⟩ : ∃ k2, k2 = k1 + m := ⟨_, rfl⟩
        rw [← hk2] at wj HX
        clear hk2
        go_enter Try.func28, Try.ntmps28
        go_wp2_with fail
        refine (HB.out _).mono ?_
        rintro e w' ⟨rfl, rfl⟩
        go_wp2_with fail
        refine (HB2.out _).mono ?_
        rintro e w' ⟨rfl, rfl⟩
        go_wp2
        refine bodyPost_ret (results_tmp4 Try.results28 _ _ _) rfl ?_
        exact ⟨HX.out, rfl⟩
      · rw [if_neg h5] at hT
        have HX := Lib.hid (show ThingTo (bl s) (.returned (.tuple #[.int .u8 (c : Int), .int .u8 (d : Int), .int .i64 ((k + 1 + m : Nat) : Int), .bool false])) from ⟨c, d, _, false, rfl, .inr ⟨hT, rfl⟩⟩)
        have q5 : ¬ (c : Int) ≤ (d : Int) := by omega
        have q5' : decide (c ≤ d) = false := decide_eq_false h5
        clear hc hc0 h0 hs hk hT hp h2 hlr h3 h4 hdm hp2 hr2 hx1 h5
        obtain ⟨k1, hk1⟩ : ∃ k1, k1 = k + 1 := ⟨_, rfl⟩
        rw [← hk1] at wi wj HX
        clear hk1
        obtain ⟨k2, hk2⟩ : ∃ k2, k2 = k1 + m := ⟨_, rfl⟩
        rw [← hk2] at wj HX
        clear hk2
        go_enter Try.func28, Try.ntmps28
        go_wp2_with fail
        refine (HB.out _).mono ?_
        rintro e w' ⟨rfl, rfl⟩
        go_wp2_with fail
        refine (HB2.out _).mono ?_
        rintro e w' ⟨rfl, rfl⟩
        go_wp2
        refine bodyPost_ret (results_tmp4 Try.results28 _ _ _) rfl ?_
        exact ⟨HX.out, rfl⟩
  · have HX := Lib.hid (show ThingTo (bl s) (.returned (.tuple #[.int .u8 (c : Int), .int .u8 (c : Int), .int .i64 (k : Int), .bool true])) from ⟨c, c, k, true, rfl, .inl ⟨by rw [hT, if_pos (.inr (.inl h3))], rfl⟩⟩)
    obtain ⟨x0, hx0⟩ : ∃ c, c = chr r 0 := ⟨_, rfl⟩
    rw [← hx0] at hR0 h3
    have q4 : ((x0 : Int) == 45) = false := by simp; omega
    have q4' : (x0 == 45) = false := by simp [h3]
    clear hc hc0 h0 hs hk hT hp h2 hlr h3 hR1 hx0
    go_enter Try.func28, Try.ntmps28
    go_wp2_with fail
    refine (HB.out _).mono ?_
    rintro e w' ⟨rfl, rfl⟩
    go_wp2
    all_goals
      refine bodyPost_ret (results_tmp4 Try.results28 _ _ _) rfl ?_
      exact ⟨HX.out, rfl⟩
end Go.Proofs.Ytjbjfdmdicfjfaa
