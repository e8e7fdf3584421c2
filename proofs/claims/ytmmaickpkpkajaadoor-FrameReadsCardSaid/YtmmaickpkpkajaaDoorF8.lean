/- The walk of 'FrameMost'. -/
import Derived.Test.YtmmaickpkpkajaaDoorF7
import Derived.Deep.OwnRows
namespace Go.Proofs.YtmmaickpkpkajaaDoor
open Go.RowKit
attribute [local go_sem ↓] Go.wp_at_zero Go.wp_at_succ

theorem made_zero (n : Nat) : madeCells #[Value.int .u8 0] n = (b8 (List.replicate n 0)).toArray := by
  apply Array.ext
  · simp [madeCells, b8]
  · intro j h1 h2
    simp [madeCells, b8, Nat.mod_one]

set_option maxHeartbeats 1000000 in
theorem most_far (m : Int) (W : World) (HN : Nibs W) (c1 : decide (m < -3) = true ∨ (decide (m < -3) = false ∧ decide (3 < m) = true)) :
    Calls Tryd.prog 4 #[.int .i64 m] W fun e w' => e = .returned (.bool true) ∧ Kept (fun _ => False) W w' := by
  have HA := Lib.hid (awake_any W HN)
  clear HN
  rcases c1 with c1 | ⟨c1, c2⟩
  · go_enter Tryd.func4, Tryd.ntmps4
    go_wp2_with (go_at_call 8; refine HA.out.mono ?_; rintro e w1 ⟨rfl, hk1⟩; have H1 := Lib.hid hk1; clear hk1)
    go_ret
    exact ⟨rfl, H1.out⟩
  · go_enter Tryd.func4, Tryd.ntmps4
    go_wp2_with (go_at_call 8; refine HA.out.mono ?_; rintro e w1 ⟨rfl, hk1⟩; have H1 := Lib.hid hk1; clear hk1)
    go_ret
    exact ⟨rfl, H1.out⟩

set_option maxHeartbeats 1000000 in
theorem most_large (m : Int) (W : World) (HN : Nibs W) (c1 : decide (m < -3) = false) (c2 : decide (3 < m) = false) (c3 : decide (0 < m) = true) :
    Calls Tryd.prog 4 #[.int .i64 m] W fun e w' => e = .returned (.bool true) ∧ Kept (fun _ => False) W w' := by
  have HA := Lib.hid (awake_any W HN)
  have h0 : 0 < m := of_decide_eq_true c3
  have h3 : ¬ 3 < m := of_decide_eq_false c2
  obtain ⟨n, hn⟩ : ∃ n : Nat, n = (65536 + m).toNat := ⟨_, rfl⟩
  have e1 : IntKind.i64.wrap (65536 + m) = (n : Int) := by rw [IntWalk.i64_in _ ⟨by omega, by omega⟩]; omega
  have hmk := run_make_row' (P := Tryd.prog) 22 5 (.int .u8 0) 1 Tryd.underlying22 info_u8 rfl .i64 .i64 n (by omega) (by omega)
  have HL := Lib.hid (fun ao c w => wrap_large ao n c (by omega) w)
  clear HN hn h0 h3
  go_enter Tryd.func4, Tryd.ntmps4
  go_wp2_with (first
    | (go_at_call 8; refine HA.out.mono ?_; rintro e w1 ⟨rfl, hk1⟩; have H1 := Lib.hid hk1; clear hk1)
    | (go_at_call 10; refine (HL.out _ _ _).mono ?_; rintro e w1 ⟨rfl, rfl⟩))
  go_ret
  exact ⟨rfl, H1.out.alloc _⟩

set_option maxHeartbeats 1000000 in
theorem most_ok (m : Int) (W : World) (HN : Nibs W) (c1 : decide (m < -3) = false) (c2 : decide (3 < m) = false) (c3 : decide (0 < m) = false) :
    Calls Tryd.prog 4 #[.int .i64 m] W fun e w' => e = .returned (.bool true) ∧ Kept (fun _ => False) W w' := by
  have HA := Lib.hid (awake_any W HN)
  have h0 : ¬ 0 < m := of_decide_eq_false c3
  have h3 : ¬ m < -3 := of_decide_eq_false c1
  obtain ⟨n, hn⟩ : ∃ n : Nat, n = (65536 + m).toNat := ⟨_, rfl⟩
  have e1 : IntKind.i64.wrap (65536 + m) = (n : Int) := by rw [IntWalk.i64_in _ ⟨by omega, by omega⟩]; omega
  have hmk := run_make_row' (P := Tryd.prog) 22 5 (.int .u8 0) 1 Tryd.underlying22 info_u8 rfl .i64 .i64 n (by omega) (by omega)
  rw [made_zero] at hmk
  obtain ⟨l, hl⟩ : ∃ l, l = List.replicate n 0 := ⟨_, rfl⟩
  have hln : l.length = n := by rw [hl]; simp
  have hl6 : l.length ≤ 65536 := by omega
  have hlb : ∀ x ∈ l, x < 256 := by intro x hx; rw [hl] at hx; have := List.eq_of_mem_replicate hx; omega
  rw [← hl] at hmk
  have HL := Lib.hid hln
  have H6 := Lib.hid hl6
  have HB := Lib.hid hlb
  have HN' := Lib.hid HN
  have HF : Hid (∀ w w' e, Firsted w (frameL l) e w' → ∃ a c, e = .returned (.tuple #[.slice a n c, .int .i64 ((9 + n : Nat) : Int), .int .i64 0]) ∧ Kept (fun _ => False) w w') := Lib.hid fun w w' e h => by
    have hf := frame_first l [] hl6
    have hs := frame_size l [] hl6
    rw [List.append_nil] at hf hs
    unfold Firsted at h
    rw [if_pos hf, hs, hln] at h
    obtain ⟨v, h1, h2, h3⟩ := h
    obtain ⟨a, c, rfl⟩ := ownsRow_slice h2
    exact ⟨a, c, h1, h3⟩
  have HWr : Hid (∀ w1, Kept (fun _ => False) W w1 → Calls Tryd.prog 10 #[.slice (some ⟨w1.heap.size, 0, none⟩) n n] (w1.alloc (.cells (b8 l).toArray 5)) fun e w2 => ∃ g cap, e = .returned (.tuple #[.slice (some ⟨g, 0, none⟩) (9 + n) cap, .int .i64 0]) ∧
      w2.ownsRow 0 5 1 (.slice (some ⟨g, 0, none⟩) (9 + n) cap) (9 + n) (b8 (frameL l)) ∧ 9 + n ≤ cap ∧ Kept (fun _ => False) W w2) := Lib.hid fun w1 hk => by
    have h := wrap_any (.slice (some ⟨w1.heap.size, 0, none⟩) n n) l hl6 _ (by have := row8_new w1 _ n l 5 (0, 0) rfl hlb; rw [hln] at this; exact this) (HN.kept (hk.alloc (.cells (b8 l).toArray 5)))
    refine h.mono ?_
    rintro e w2 ⟨v, rfl, ho, hk2⟩
    rw [hln] at ho
    obtain ⟨g, cap, rfl, hg, hcap⟩ := own_at ho (by omega)
    exact ⟨g, cap, rfl, own_weaken ho (by omega), hcap, (hk.alloc _).trans hk2⟩
  have HFi : Hid (∀ w1 g cap, Kept (fun _ => False) W w1 → 9 + n ≤ cap → w1.ownsRow 0 5 1 (.slice (some ⟨g, 0, none⟩) (9 + n) cap) (9 + n) (b8 (frameL l)) → Calls Tryd.prog 12 #[.slice (some ⟨g, 0, none⟩) (9 + n) cap] w1 fun e w2 =>
      ∃ a c, e = .returned (.tuple #[.slice a n c, .int .i64 ((9 + n : Nat) : Int), .int .i64 0]) ∧ Kept (fun _ => False) w1 w2) := Lib.hid fun w1 g cap hk hc ho => by
    have hfl : (frameL l).length = 9 + n := by rw [frameL_len, hln]
    have h := first_any (some ⟨g, 0, none⟩) cap (frameL l) (by omega) (by omega) w1 (by rw [hfl]; exact row8_own (frameL_lt l hlb) ho) (HN.kept hk)
    rw [hfl] at h
    exact h.mono fun e w2 h => HF.out _ _ _ h
  obtain ⟨N9, hN9⟩ : ∃ N9, N9 = 9 + n := ⟨_, rfl⟩
  rw [← hN9] at HWr HFi
  have e2 : ((n : Int) == 65536 + m) = true := beq_iff_eq.2 (by omega)
  have e3 : ((n : Int) == (n : Int)) = true := beq_iff_eq.2 rfl
  clear HN hn h0 h3 hl hln hl6 hlb HF hN9
  go_enter Tryd.func4, Tryd.ntmps4
  go_wp2_with (first
    | (go_at_call 8; refine HA.out.mono ?_; rintro e w1 ⟨rfl, hk1⟩; have H1 := Lib.hid hk1; clear hk1)
    | (go_at_call 10; refine (HWr.out w1 H1.out).mono ?_; intro e w2 h1; obtain ⟨g, cap, rfl, ho, hcap, hk⟩ := h1; have HO := Lib.hid ho; have HK := Lib.hid hk; have HC := Lib.hid hcap; clear ho hk hcap)
    | (go_at_call 12; refine (HFi.out _ _ _ HK.out HC.out HO.out).mono ?_; intro e w3 h1; obtain ⟨a3, c3, rfl, hk⟩ := h1; have HK3 := Lib.hid hk; clear hk))
  go_ret
  exact ⟨rfl, HK.out.trans HK3.out⟩

theorem frameMost_walk (m : Int) (W : World) (_hm : -9223372036854775808 ≤ m ∧ m ≤ 9223372036854775807) (HN : Nibs W) :
    Calls Tryd.prog 4 #[.int .i64 m] W fun e w' => e = .returned (.bool true) ∧ Kept (fun _ => False) W w' := by
  by_cases h1 : m < -3
  · exact most_far m W HN (.inl (decide_eq_true h1))
  by_cases h2 : 3 < m
  · exact most_far m W HN (.inr ⟨decide_eq_false h1, decide_eq_true h2⟩)
  by_cases h3 : 0 < m
  · exact most_large m W HN (decide_eq_false h1) (decide_eq_false h2) (decide_eq_true h3)
  · exact most_ok m W HN (decide_eq_false h1) (decide_eq_false h2) (decide_eq_false h3)
end Go.Proofs.YtmmaickpkpkajaaDoor
