/- package vary: GetInt, getWay. -/
import Derived.Test.YtaagjedkojlbpaaDoorV17
namespace Go.Proofs.YtaagjedkojlbpaaDoor
open Go.RowKit
attribute [local go_sem ↓] Go.wp_at_zero Go.wp_at_succ

theorem numB_u64 (l : List Bool) (S : Nat) (hS : S ≤ 64) : numB (l.take S) < 18446744073709551616 := by
  have := numB_lt (l.take S)
  refine Nat.lt_of_lt_of_le this ?_
  have e : (18446744073709551616 : Nat) = 2 ^ 64 := by decide
  rw [e]
  exact Nat.pow_le_pow_right (by omega) (by rw [List.length_take]; omega)

/-- How many bits 1 stand first, up to so many. -/
def onesK : Nat → List Bool → Nat
  | 0, _ => 0
  | _, [] => 0
  | n + 1, b :: l => if b then onesK n l + 1 else 0
theorem onesK_le (n : Nat) (l : List Bool) : onesK n l ≤ n ∧ onesK n l ≤ l.length := by
  induction n generalizing l with
  | zero => simp [onesK]
  | succ n ih =>
    cases l with
    | nil => simp [onesK]
    | cons b l =>
      have := ih l
      cases b <;> simp [onesK] <;> omega
theorem onesK_get (n : Nat) (l : List Bool) (m : Nat) (hm : m < onesK n l) : l.getD m false = true := by
  induction n generalizing l m with
  | zero => simp [onesK] at hm
  | succ n ih =>
    cases l with
    | nil => simp [onesK] at hm
    | cons b l =>
      cases b
      · simp [onesK] at hm
      · cases m with
        | zero => rfl
        | succ m =>
          have := ih l m (by simp [onesK] at hm; omega)
          simpa using this
theorem onesK_end (n : Nat) (l : List Bool) (h : onesK n l < n) : onesK n l = l.length ∨ (onesK n l < l.length ∧ l.getD (onesK n l) false = false) := by
  induction n generalizing l with
  | zero => omega
  | succ n ih =>
    cases l with
    | nil => left; simp [onesK]
    | cons b l =>
      cases b
      · right; simp [onesK]
      · have := ih l (by simp [onesK] at h; omega)
        simp only [onesK, if_true, List.length_cons]
        rcases this with h1 | ⟨h1, h2⟩
        · left; omega
        · right; exact ⟨by omega, by simpa using h2⟩

/-- What stands first among bits: a difference, its length, and an error. -/
def gotStep (l : List Bool) : Int × Nat × Nat :=
  if onesK 4 l < 4 ∧ onesK 4 l = l.length then (0, 0, 2)
  else if l.length - (if onesK 4 l < 4 then onesK 4 l + 1 else 4) < widthW.getD (onesK 4 l) 0 then (0, 0, 2)
  else if wayN (cutI (numB ((l.drop (if onesK 4 l < 4 then onesK 4 l + 1 else 4)).take (widthW.getD (onesK 4 l) 0))) (widthW.getD (onesK 4 l) 0)) ≠ onesK 4 l then (0, 0, 3)
  else (cutI (numB ((l.drop (if onesK 4 l < 4 then onesK 4 l + 1 else 4)).take (widthW.getD (onesK 4 l) 0))) (widthW.getD (onesK 4 l) 0), (if onesK 4 l < 4 then onesK 4 l + 1 else 4) + widthW.getD (onesK 4 l) 0, 0)
theorem gotStep_cases (l : List Bool) : ∃ K S, K = onesK 4 l ∧ K ≤ 4 ∧ S = widthW.getD K 0 ∧ (S = 0 ∨ S = 6 ∨ S = 10 ∨ S = 16 ∨ S = 64) ∧
    ((K < 4 ∧ l.length = K ∧ gotStep l = (0, 0, 2)) ∨
     (∃ A, (K < 4 ∧ A = K + 1 ∧ l.getD K false = false ∨ K = 4 ∧ A = 4) ∧ A ≤ l.length ∧
      ((l.length - A < S ∧ gotStep l = (0, 0, 2)) ∨ (S ≤ l.length - A ∧ ∃ x, x = numB ((l.drop A).take S) ∧ x < 18446744073709551616 ∧ ((wayN (cutI x S) ≠ K ∧ gotStep l = (0, 0, 3)) ∨ (wayN (cutI x S) = K ∧ gotStep l = (cutI x S, A + S, 0))))))) := by
  obtain ⟨hk4, hkl⟩ := onesK_le 4 l
  have hend := onesK_end 4 l
  have hS := width_cases (onesK 4 l) (by omega)
  refine ⟨_, _, rfl, hk4, rfl, hS, ?_⟩
  by_cases h1 : onesK 4 l < 4 ∧ onesK 4 l = l.length
  · exact .inl ⟨h1.1, h1.2.symm, by unfold gotStep; rw [if_pos h1]⟩
  · refine .inr ⟨if onesK 4 l < 4 then onesK 4 l + 1 else 4, ?_, ?_, ?_⟩
    · by_cases h2 : onesK 4 l < 4
      · rw [if_pos h2]
        rcases hend h2 with h3 | h3
        · exact absurd ⟨h2, h3⟩ h1
        · exact .inl ⟨h2, rfl, h3.2⟩
      · rw [if_neg h2]; exact .inr ⟨by omega, rfl⟩
    · by_cases h2 : onesK 4 l < 4
      · rw [if_pos h2]; omega
      · rw [if_neg h2]; omega
    · by_cases h3 : l.length - (if onesK 4 l < 4 then onesK 4 l + 1 else 4) < widthW.getD (onesK 4 l) 0
      · exact .inl ⟨h3, by unfold gotStep; rw [if_neg h1, if_pos h3]⟩
      · refine .inr ⟨by omega, _, rfl, numB_u64 _ _ (by omega), ?_⟩
        by_cases h4 : wayN (cutI (numB ((l.drop (if onesK 4 l < 4 then onesK 4 l + 1 else 4)).take (widthW.getD (onesK 4 l) 0))) (widthW.getD (onesK 4 l) 0)) = onesK 4 l
        · exact .inr ⟨h4, by unfold gotStep; rw [if_neg h1, if_neg h3, if_neg (fun e => e h4)]⟩
        · exact .inl ⟨h4, by unfold gotStep; rw [if_neg h1, if_neg h3, if_pos h4]⟩
theorem gotStep_le (l : List Bool) : (gotStep l).2.1 ≤ l.length := by
  obtain ⟨K, S, _, _, _, _, ⟨_, _, e⟩ | ⟨A, _, _, ⟨_, e⟩ | ⟨_, x, _, _, ⟨_, e⟩ | ⟨_, e⟩⟩⟩⟩ := gotStep_cases l <;> rw [e] <;> simp <;> omega
theorem cutI_I64 (x S : Nat) (hS : S = 0 ∨ S = 6 ∨ S = 10 ∨ S = 16 ∨ S = 64) : I64 (cutI x S) := by
  unfold cutI I64
  rcases hS with rfl | rfl | rfl | rfl | rfl <;> simp only [Nat.reducePow, Nat.reduceSub, Nat.reduceEqDiff, if_true, if_false] <;> (try split) <;> omega
theorem gotStep_I64 (l : List Bool) : I64 (gotStep l).1 := by
  obtain ⟨K, S, _, _, _, hS, ⟨_, _, e⟩ | ⟨A, _, _, ⟨_, e⟩ | ⟨_, x, _, _, ⟨_, e⟩ | ⟨_, e⟩⟩⟩⟩ := gotStep_cases l <;> rw [e]
  · exact ⟨by decide, by decide⟩
  · exact ⟨by decide, by decide⟩
  · exact ⟨by decide, by decide⟩
  · exact cutI_I64 x S hS

theorem take1 (l : List Bool) (t m : Nat) (hm : t + m < l.length) : (l.drop (t + m)).take 1 = [(l.drop t).getD m false] := by
  rw [List.drop_eq_getElem_cons hm, List.getD_eq_getElem?_getD, List.getElem?_drop, List.getElem?_eq_getElem hm]; rfl

set_option maxHeartbeats 4000000 in
set_option maxRecDepth 100000 in
theorem getWay_any (B p : Nat) (v : Value) (bs : List Bool) (t : Nat) (w : World) (HR : BrAt w B p v bs t) (hB : B ≤ w.heap.size) (hB1 : 1 < B) (hl : bs.length ≤ 100000000) (HT : WayTab w) :
    Calls Tryd.prog 73 #[.pointer (some ⟨p, 0, none⟩)] w (GotAt .i64 w B p v bs t (gotStep (bs.drop t)).1 (gotStep (bs.drop t)).2.1 (gotStep (bs.drop t)).2.2) := by
  have hpl := HR.lt
  obtain ⟨ao, cp, rfl⟩ := ownsRow_slice HR.owns
  have hc0 := HR.c0
  have hc1 := HR.c1
  have hc2 := HR.c2
  have hft := HR.taken
  obtain ⟨w0, hw0⟩ : ∃ w0, w0 = w.alloc (.cells #[.slice ao (packB bs).length cp, .int .i64 bs.length, .int .i64 t] 82) := ⟨_, rfl⟩
  have K0 : Kept (fun _ => False) w w0 := by rw [hw0]; exact (Kept.refl _ w).alloc _
  have HQ := HR.copy hB
  rw [← hw0] at HQ
  have hdl : (bs.drop t).length = bs.length - t := List.length_drop
  have HRR := Lib.hid HR
  have HTT := Lib.hid HT
  have FIN0 := Lib.hid fun w2 (h : Kept (fun k => k = w.heap.size) w0 w2) => K0.new h (Nat.le_refl _)
  have FINE := Lib.hid fun w2 (E : Nat) (h : Kept (fun k => k = w.heap.size) w0 w2) => show GotAt .i64 w B p (.slice ao (packB bs).length cp) bs t 0 0 E (.returned (.tuple #[.int .i64 0, .int .i64 (E : Int)])) w2 from ⟨rfl, HR.keptF (FIN0.out _ h), (FIN0.out _ h).mono (fun _ _ x => x.elim)⟩
  obtain ⟨K, S, hK, hK4, hS, hSc, hrest⟩ := gotStep_cases (bs.drop t)
  have hones := onesK_get 4 (bs.drop t)
  have hole := (onesK_le 4 (bs.drop t)).2
  rw [← hK] at hones hole
  have TAKE1 := Lib.hid fun w1 m (hm : m < K) (h : BrAt w1 B w.heap.size (.slice ao (packB bs).length cp) bs (t + m)) => show Calls Tryd.prog 54 #[.pointer (some ⟨w.heap.size, 0, none⟩), .int .i64 1] w1 (Taken w1 B w.heap.size (.slice ao (packB bs).length cp) bs (t + (m + 1)) 1 true) from by
    have := btake_yes B w.heap.size _ bs (t + m) 1 w1 h (by omega) (by omega) (by omega)
    rw [take1 bs t m (by omega), hones m hm] at this
    exact this
  have TAB : ∀ w1, Kept (fun k => k = w.heap.size) w0 w1 → w1.cell? ⟨1, K, none⟩ = some (.int .i64 (S : Int)) := fun w1 h => by
    rw [hS]; exact ((HT.kept K0).keptS h (by omega)) K (by omega)
  have TAB := Lib.hid TAB
  have k0 : (0 : Int) ≤ (K : Int) := by omega
  have k5 : (K : Int) < 5 := by omega
  clear HR HT hones
  rcases hrest with ⟨hK3, hlK, e⟩ | ⟨A, hA, hAl, hrest⟩
  · rw [e]
    have TAKEN := Lib.hid fun w1 (h : BrAt w1 B w.heap.size (.slice ao (packB bs).length cp) bs (t + K)) => btake_no B w.heap.size _ bs (t + K) 1 w1 h (by omega) (.inr (.inr (by omega)))
    have HQQ := Lib.hid HQ
    have HW0 := Lib.hid hw0
    clear HQ e hK hS hlK hole hdl
    go_enter Tryd.func73, Tryd.ntmps73
    go_wp2
    rw [← HW0.out]
    go_loopg [5, 6, 7] 4 (fun g s5 s6 s7 wr => ∃ m : Nat, m ≤ K ∧ g = 4 - m ∧ s5 = .int .i64 m ∧ BrAt wr B w.heap.size (.slice ao (packB bs).length cp) bs (t + m) ∧ Kept (fun k => k = w.heap.size) w0 wr)
    case atStart => exact ⟨0, Nat.zero_le _, rfl, rfl, HQQ.out, Kept.refl _ _⟩
    case round =>
      obtain ⟨m, hm, rfl, rfl, hq, hk⟩ := hrel
      have HK := Lib.hid hk
      have HM := Lib.hid hq
      clear hq hk hc0 hc1 hc2
      have m4 : (m : Int) < 4 := by omega
      by_cases hd : m < K
      · go_wp2_with (go_at_call 54; refine (TAKE1.out _ m hd HM.out).mono ?_; rintro e w1 ⟨rfl, hq1, hk⟩; have H1 := Lib.hid (HK.out.trans hk); have HQ1 := Lib.hid hq1; clear hk hq1)
        go_roundg (4 - (m + 1))
        case measure => omega
        case rel => exact ⟨m + 1, hd, rfl, by go_num, HQ1.out, H1.out⟩
      · obtain rfl : m = K := by omega
        go_wp2_with (go_at_call 54; refine (TAKEN.out _ HM.out).mono ?_; rintro e w1 ⟨rfl, hq1, hk⟩; have H1 := Lib.hid (HK.out.trans hk); clear hk hq1)
        go_ret2
        exact FINE.out _ 2 H1.out
  · rw [hdl] at hAl hrest
    rcases hrest with ⟨h3, e⟩ | ⟨h3, x, hx, hx64, hrest⟩
    · rw [e]
      have TAKES := Lib.hid fun w1 (h : BrAt w1 B w.heap.size (.slice ao (packB bs).length cp) bs (t + A)) => btake_no B w.heap.size _ bs (t + A) S w1 h (by omega) (.inr (.inr (by omega)))
      have HQQ := Lib.hid HQ
      have HW0 := Lib.hid hw0
      clear HQ e hdl hole hw0 hK hS
      go_enter Tryd.func73, Tryd.ntmps73
      go_wp2
      rw [← HW0.out]
      go_loopg [5, 6, 7] 4 (fun g s5 s6 s7 wr => ∃ m : Nat, m ≤ K ∧ g = 4 - m ∧ s5 = .int .i64 m ∧ BrAt wr B w.heap.size (.slice ao (packB bs).length cp) bs (t + m) ∧ Kept (fun k => k = w.heap.size) w0 wr)
      case atStart => exact ⟨0, Nat.zero_le _, rfl, rfl, HQQ.out, Kept.refl _ _⟩
      case round =>
        obtain ⟨m, hm, rfl, rfl, hq, hk⟩ := hrel
        have hcel0 := TAB.out _ hk
        have HK := Lib.hid hk
        have HM := Lib.hid hq
        clear hq hk hc0 hc1 hc2
        by_cases hd : m < K
        · have m4 : (m : Int) < 4 := by omega
          go_wp2_with (go_at_call 54; refine (TAKE1.out _ m hd HM.out).mono ?_; rintro e w1 ⟨rfl, hq1, hk⟩; have H1 := Lib.hid (HK.out.trans hk); have HQ1 := Lib.hid hq1; clear hk hq1)
          go_roundg (4 - (m + 1))
          case measure => omega
          case rel => exact ⟨m + 1, hd, rfl, by go_num, HQ1.out, H1.out⟩
        · obtain rfl : m = K := by omega
          clear hm hd
          rcases hA with ⟨hK3, hAe, hz⟩ | ⟨rfl, rfl⟩
          · have m4 : (m : Int) < 4 := by omega
            have T0 := Lib.hid (btake_yes B w.heap.size _ bs (t + m) 1 _ HM.out (by omega) (by omega) (by omega))
            rw [take1 bs t m (by omega), hz] at T0
            have T0 : Hid (Calls Tryd.prog 54 #[.pointer (some ⟨w.heap.size, 0, none⟩), .int .i64 1] wr (Taken wr B w.heap.size (.slice ao (packB bs).length cp) bs (t + A) 0 true)) := Lib.hid (by rw [hAe]; exact T0.out)
            clear hAe hz hK3
            go_wp2_with (first
              | (go_at_call 54; refine (TAKES.out _ HQ1.out).mono ?_; rintro e w2 ⟨rfl, _, hk⟩; have H2 := Lib.hid (H1.out.trans hk); clear hk)
              | (go_at_call 54; refine T0.out.mono ?_; rintro e w1 ⟨rfl, hq1, hk⟩; have H1 := Lib.hid (HK.out.trans hk); have hcel := TAB.out _ H1.out; have HQ1 := Lib.hid hq1; clear hk hq1))
            go_ret2
            exact FINE.out _ 2 H2.out
          · have H1 := HK
            have HQ1 := HM
            go_wp2_with (first
              | (go_at_call 54; refine (TAKES.out _ HQ1.out).mono ?_; rintro e w2 ⟨rfl, _, hk⟩; have H2 := Lib.hid (H1.out.trans hk); clear hk))
            go_ret2
            exact FINE.out _ 2 H2.out
    · obtain ⟨X, hX⟩ : ∃ X, X = cutI x S := ⟨_, rfl⟩
      have hXr := cutI_I64 x S hSc
      have HCUT := cut_any x hx64 S hSc
      rw [← hX] at hXr HCUT hrest
      have HCUT := Lib.hid HCUT
      have HWAY := Lib.hid (way_any X hXr.1 hXr.2)
      obtain ⟨t2, ht2⟩ : ∃ t2, t2 = t + A + S := ⟨_, rfl⟩
      have HTE := Lib.hid (show t + (A + S) = t2 by omega)
      rw [List.drop_drop] at hx
      have TAKEX := Lib.hid fun w1 (h : BrAt w1 B w.heap.size (.slice ao (packB bs).length cp) bs (t + A)) => show Calls Tryd.prog 54 #[.pointer (some ⟨w.heap.size, 0, none⟩), .int .i64 S] w1 (Taken w1 B w.heap.size (.slice ao (packB bs).length cp) bs t2 x true) from by
        have := btake_yes B w.heap.size _ bs (t + A) S w1 h (by omega) (by omega) (by omega)
        rw [← hx] at this; rw [ht2]; exact this
      clear hx ht2 hX hXr hS hK
      rcases hrest with ⟨h4, e⟩ | ⟨h4, e⟩
      · rw [e]
        obtain ⟨C, hC⟩ : ∃ C, C = wayN X := ⟨_, rfl⟩
        have hne : (((C : Nat) : Int) != (K : Int)) = true := by simp; omega
        rw [← hC] at HWAY
        clear hC h4
        have HQQ := Lib.hid HQ
        have HW0 := Lib.hid hw0
        clear HQ e hdl hole hw0
        go_enter Tryd.func73, Tryd.ntmps73
        go_wp2
        rw [← HW0.out]
        go_loopg [5, 6, 7] 4 (fun g s5 s6 s7 wr => ∃ m : Nat, m ≤ K ∧ g = 4 - m ∧ s5 = .int .i64 m ∧ BrAt wr B w.heap.size (.slice ao (packB bs).length cp) bs (t + m) ∧ Kept (fun k => k = w.heap.size) w0 wr)
        case atStart => exact ⟨0, Nat.zero_le _, rfl, rfl, HQQ.out, Kept.refl _ _⟩
        case round =>
          obtain ⟨m, hm, rfl, rfl, hq, hk⟩ := hrel
          have hcel0 := TAB.out _ hk
          have HK := Lib.hid hk
          have HM := Lib.hid hq
          clear hq hk hc0 hc1 hc2
          by_cases hd : m < K
          · have m4 : (m : Int) < 4 := by omega
            go_wp2_with (go_at_call 54; refine (TAKE1.out _ m hd HM.out).mono ?_; rintro e w1 ⟨rfl, hq1, hk⟩; have H1 := Lib.hid (HK.out.trans hk); have HQ1 := Lib.hid hq1; clear hk hq1)
            go_roundg (4 - (m + 1))
            case measure => omega
            case rel => exact ⟨m + 1, hd, rfl, by go_num, HQ1.out, H1.out⟩
          · obtain rfl : m = K := by omega
            clear hm hd
            rcases hA with ⟨hK3, hAe, hz⟩ | ⟨rfl, rfl⟩
            · have m4 : (m : Int) < 4 := by omega
              have T0 := Lib.hid (btake_yes B w.heap.size _ bs (t + m) 1 _ HM.out (by omega) (by omega) (by omega))
              rw [take1 bs t m (by omega), hz] at T0
              have T0 : Hid (Calls Tryd.prog 54 #[.pointer (some ⟨w.heap.size, 0, none⟩), .int .i64 1] wr (Taken wr B w.heap.size (.slice ao (packB bs).length cp) bs (t + A) 0 true)) := Lib.hid (by rw [hAe]; exact T0.out)
              clear hAe hz hK3
              go_wp2_with (first
                | (go_at_call 54; refine (TAKEX.out _ HQ1.out).mono ?_; rintro e w2 ⟨rfl, _, hk⟩; have H2 := Lib.hid (H1.out.trans hk); have hcel2 := TAB.out _ H2.out; clear hk)
                | (go_at_call 80; refine (HCUT.out _).mono ?_; rintro e w' ⟨rfl, rfl⟩)
                | (go_at_call 70; refine (HWAY.out _ (HTT.out.kept (FIN0.out _ H2.out))).mono ?_; rintro e w' ⟨rfl, rfl⟩)
                | (go_at_call 54; refine T0.out.mono ?_; rintro e w1 ⟨rfl, hq1, hk⟩; have H1 := Lib.hid (HK.out.trans hk); have hcel := TAB.out _ H1.out; have HQ1 := Lib.hid hq1; clear hk hq1))
              go_ret2
              exact FINE.out _ 3 H2.out
            · have H1 := HK
              have HQ1 := HM
              go_wp2_with (first
                | (go_at_call 54; refine (TAKEX.out _ HQ1.out).mono ?_; rintro e w2 ⟨rfl, _, hk⟩; have H2 := Lib.hid (H1.out.trans hk); have hcel2 := TAB.out _ H2.out; clear hk)
                | (go_at_call 80; refine (HCUT.out _).mono ?_; rintro e w' ⟨rfl, rfl⟩)
                | (go_at_call 70; refine (HWAY.out _ (HTT.out.kept (FIN0.out _ H2.out))).mono ?_; rintro e w' ⟨rfl, rfl⟩))
              go_ret2
              exact FINE.out _ 3 H2.out
      · rw [e]
        obtain ⟨C, hC⟩ : ∃ C, C = wayN X := ⟨_, rfl⟩
        have hne : (((C : Nat) : Int) != (K : Int)) = false := by simp; omega
        rw [← hC] at HWAY
        clear hC h4
        have HQQ := Lib.hid HQ
        have HW0 := Lib.hid hw0
        clear HQ e hdl hole hw0
        go_enter Tryd.func73, Tryd.ntmps73
        go_wp2
        rw [← HW0.out]
        go_loopg [5, 6, 7] 4 (fun g s5 s6 s7 wr => ∃ m : Nat, m ≤ K ∧ g = 4 - m ∧ s5 = .int .i64 m ∧ BrAt wr B w.heap.size (.slice ao (packB bs).length cp) bs (t + m) ∧ Kept (fun k => k = w.heap.size) w0 wr)
        case atStart => exact ⟨0, Nat.zero_le _, rfl, rfl, HQQ.out, Kept.refl _ _⟩
        case round =>
          obtain ⟨m, hm, rfl, rfl, hq, hk⟩ := hrel
          have hcel0 := TAB.out _ hk
          have HK := Lib.hid hk
          have HM := Lib.hid hq
          clear hq hk hc0 hc1 hc2
          by_cases hd : m < K
          · have m4 : (m : Int) < 4 := by omega
            go_wp2_with (go_at_call 54; refine (TAKE1.out _ m hd HM.out).mono ?_; rintro e w1 ⟨rfl, hq1, hk⟩; have H1 := Lib.hid (HK.out.trans hk); have HQ1 := Lib.hid hq1; clear hk hq1)
            go_roundg (4 - (m + 1))
            case measure => omega
            case rel => exact ⟨m + 1, hd, rfl, by go_num, HQ1.out, H1.out⟩
          · obtain rfl : m = K := by omega
            clear hm hd
            rcases hA with ⟨hK3, hAe, hz⟩ | ⟨rfl, rfl⟩
            · have m4 : (m : Int) < 4 := by omega
              have T0 := Lib.hid (btake_yes B w.heap.size _ bs (t + m) 1 _ HM.out (by omega) (by omega) (by omega))
              rw [take1 bs t m (by omega), hz] at T0
              have T0 : Hid (Calls Tryd.prog 54 #[.pointer (some ⟨w.heap.size, 0, none⟩), .int .i64 1] wr (Taken wr B w.heap.size (.slice ao (packB bs).length cp) bs (t + A) 0 true)) := Lib.hid (by rw [hAe]; exact T0.out)
              clear hAe hz hK3
              go_wp2_with (first
                | (go_at_call 54; refine (TAKEX.out _ HQ1.out).mono ?_; rintro e w2 ⟨rfl, hq2, hk⟩; have r0 := hq2.c0; have r1 := hq2.c1; have r2 := hq2.c2; have H2 := Lib.hid (H1.out.trans hk); have hcel2 := TAB.out _ H2.out; have hp2 := HRR.out.keptF (FIN0.out _ H2.out); have s0 := hp2.c0; have s1 := hp2.c1; have s2 := hp2.c2; have f0 := hp2.free 0; have f1 := hp2.free 1; have f2 := hp2.free 2; have HP3 := Lib.hid (hp2.put3 hq2.taken); clear hk hq2 hp2)
                | (go_at_call 80; refine (HCUT.out _).mono ?_; rintro e w' ⟨rfl, rfl⟩)
                | (go_at_call 70; refine (HWAY.out _ (HTT.out.kept (FIN0.out _ H2.out))).mono ?_; rintro e w' ⟨rfl, rfl⟩)
                | (go_at_call 54; refine T0.out.mono ?_; rintro e w1 ⟨rfl, hq1, hk⟩; have H1 := Lib.hid (HK.out.trans hk); have hcel := TAB.out _ H1.out; have HQ1 := Lib.hid hq1; clear hk hq1))
              go_ret2
              exact ⟨rfl, by rw [HTE.out]; exact HP3.out.1, ((FIN0.out _ H2.out).mono (fun _ _ x => x.elim)).trans HP3.out.2⟩
            · have H1 := HK
              have HQ1 := HM
              go_wp2_with (first
                | (go_at_call 54; refine (TAKEX.out _ HQ1.out).mono ?_; rintro e w2 ⟨rfl, hq2, hk⟩; have r0 := hq2.c0; have r1 := hq2.c1; have r2 := hq2.c2; have H2 := Lib.hid (H1.out.trans hk); have hcel2 := TAB.out _ H2.out; have hp2 := HRR.out.keptF (FIN0.out _ H2.out); have s0 := hp2.c0; have s1 := hp2.c1; have s2 := hp2.c2; have f0 := hp2.free 0; have f1 := hp2.free 1; have f2 := hp2.free 2; have HP3 := Lib.hid (hp2.put3 hq2.taken); clear hk hq2 hp2)
                | (go_at_call 80; refine (HCUT.out _).mono ?_; rintro e w' ⟨rfl, rfl⟩)
                | (go_at_call 70; refine (HWAY.out _ (HTT.out.kept (FIN0.out _ H2.out))).mono ?_; rintro e w' ⟨rfl, rfl⟩))
              go_ret2
              exact ⟨rfl, by rw [HTE.out]; exact HP3.out.1, ((FIN0.out _ H2.out).mono (fun _ _ x => x.elim)).trans HP3.out.2⟩
end Go.Proofs.YtaagjedkojlbpaaDoor
