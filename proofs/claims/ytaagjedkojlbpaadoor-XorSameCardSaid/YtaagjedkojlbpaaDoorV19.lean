/- package vary: GetInt, next, Row.Get. -/
import Derived.Test.YtaagjedkojlbpaaDoorV18
namespace Go.Proofs.YtaagjedkojlbpaaDoor
open Go.RowKit
attribute [local go_sem ↓] Go.wp_at_zero Go.wp_at_succ

theorem gotSmall_u64 (l : List Bool) : (gotSmall l).1 < 18446744073709551616 := by
  rcases gotSmall_cases l with ⟨_, e⟩ | ⟨_, c, S, _, _, _, _, ⟨_, e⟩ | ⟨_, x, _, _, ⟨_, e⟩ | ⟨_, e⟩⟩⟩ <;> rw [e] <;> simp; assumption

set_option maxHeartbeats 1000000 in
theorem varyGetInt_any (B p : Nat) (v : Value) (bs : List Bool) (t : Nat) (w : World) (HR : BrAt w B p v bs t) (hB : B ≤ w.heap.size) (hl : bs.length ≤ 100000000) (HT : ClassTab w) :
    Calls Tryd.prog 22 #[.pointer (some ⟨p, 0, none⟩)] w (GotAt .i64 w B p v bs t (zagI (gotSmall (bs.drop t)).1) (gotSmall (bs.drop t)).2.1 (gotSmall (bs.drop t)).2.2) := by
  have HG := Lib.hid (varyGet_any B p v bs t w HR hB hl HT)
  have hv := gotSmall_u64 (bs.drop t)
  obtain ⟨V, hV⟩ : ∃ V, V = (gotSmall (bs.drop t)).1 := ⟨_, rfl⟩
  obtain ⟨N, hN⟩ : ∃ V, V = (gotSmall (bs.drop t)).2.1 := ⟨_, rfl⟩
  obtain ⟨E, hE⟩ : ∃ V, V = (gotSmall (bs.drop t)).2.2 := ⟨_, rfl⟩
  rw [← hV] at hv
  rw [← hV, ← hN, ← hE] at HG ⊢
  have HZ := Lib.hid (zag_any (V : Int) (by omega) (by omega))
  obtain ⟨Z, hZ⟩ : ∃ Z, Z = zagI (V : Int) := ⟨_, rfl⟩
  rw [← hZ] at HZ ⊢
  clear HR HT hV hN hE hZ
  go_enter Tryd.func22, Tryd.ntmps22
  go_wp2_with (first
    | (go_at_call 24; refine HG.out.mono ?_; rintro e w1 ⟨rfl, hq, hk⟩; have HQ := Lib.hid hq; have HK := Lib.hid hk; clear hq hk)
    | (go_at_call 53; refine (HZ.out _).mono ?_; rintro e w' ⟨rfl, rfl⟩))
  go_ret2
  exact ⟨rfl, HQ.out, HK.out⟩

/-- What stands next for a row. -/
def nextGot (n last step : Int) (l : List Bool) : Int × Nat × Nat :=
  if n < 2 then (wrap64 (last + zagI (gotSmall l).1), (gotSmall l).2.1, (gotSmall l).2.2) else (wrap64 (wrap64 (last + step) + (gotStep l).1), (gotStep l).2.1, (gotStep l).2.2)
theorem nextGot_I64 (n last step : Int) (l : List Bool) : I64 (nextGot n last step l).1 := by
  unfold nextGot I64 wrap64; split <;> simp only <;> omega
theorem nextGot_le (n last step : Int) (l : List Bool) : (nextGot n last step l).2.1 ≤ l.length := by
  unfold nextGot; split
  · exact gotSmall_le l
  · exact gotStep_le l

set_option maxHeartbeats 1000000 in
theorem rowNext_any (B p r : Nat) (v : Value) (bs : List Bool) (t : Nat) (n last step : Int) (w : World) (HR : BrAt w B p v bs t) (HX : RowBox w r n last step) (hrp : r ≠ p) (hB : B ≤ w.heap.size) (hB1 : 1 < B) (hl : bs.length ≤ 100000000) (HT : Tabs w) :
    Calls Tryd.prog 58 #[.pointer (some ⟨r, 0, none⟩), .pointer (some ⟨p, 0, none⟩)] w (GotAt .i64 w B p v bs t (nextGot n last step (bs.drop t)).1 (nextGot n last step (bs.drop t)).2.1 (nextGot n last step (bs.drop t)).2.2) := by
  obtain ⟨x0, x1, x2⟩ := HX.c
  by_cases h2 : n < 2
  · have HG := varyGetInt_any B p v bs t w HR hB hl HT.c
    have e : nextGot n last step (bs.drop t) = (wrap64 (last + zagI (gotSmall (bs.drop t)).1), (gotSmall (bs.drop t)).2.1, (gotSmall (bs.drop t)).2.2) := if_pos h2
    rw [e]
    obtain ⟨V, hV⟩ : ∃ V, V = zagI (gotSmall (bs.drop t)).1 := ⟨_, rfl⟩
    obtain ⟨N, hN⟩ : ∃ V, V = (gotSmall (bs.drop t)).2.1 := ⟨_, rfl⟩
    obtain ⟨E, hE⟩ : ∃ V, V = (gotSmall (bs.drop t)).2.2 := ⟨_, rfl⟩
    rw [← hV, ← hN, ← hE] at HG ⊢
    have HG := Lib.hid HG
    have HXX := Lib.hid HX
    clear HR HT hV hN hE e HX
    go_enter Tryd.func58, Tryd.ntmps58
    go_wp2_with (go_at_call 22; refine HG.out.mono ?_; rintro e w1 ⟨rfl, hq, hk⟩; have hy := (HXX.out.kept hk hrp).c; have HQ := Lib.hid hq; have HK := Lib.hid hk; obtain ⟨y0, y1, y2⟩ := hy; clear hq hk)
    go_ret2
    exact ⟨rfl, HQ.out, HK.out⟩
  · have HG := getWay_any B p v bs t w HR hB hB1 hl HT.y
    have e : nextGot n last step (bs.drop t) = (wrap64 (wrap64 (last + step) + (gotStep (bs.drop t)).1), (gotStep (bs.drop t)).2.1, (gotStep (bs.drop t)).2.2) := if_neg h2
    rw [e]
    obtain ⟨V, hV⟩ : ∃ V, V = (gotStep (bs.drop t)).1 := ⟨_, rfl⟩
    obtain ⟨N, hN⟩ : ∃ V, V = (gotStep (bs.drop t)).2.1 := ⟨_, rfl⟩
    obtain ⟨E, hE⟩ : ∃ V, V = (gotStep (bs.drop t)).2.2 := ⟨_, rfl⟩
    rw [← hV, ← hN, ← hE] at HG ⊢
    have HG := Lib.hid HG
    have HXX := Lib.hid HX
    obtain ⟨L, hL⟩ : ∃ L, L = wrap64 (last + step) := ⟨_, rfl⟩
    obtain ⟨M, hM⟩ : ∃ M, M = wrap64 (L + V) := ⟨_, rfl⟩
    rw [← hL, ← hM]
    have e1 : IntKind.i64.wrap (last + step) = L := by rw [hL]; exact IntWalk.i64_left _
    have e2 : IntKind.i64.wrap (L + V) = M := by rw [hM]; exact IntWalk.i64_left _
    clear HR HT hV hN hE e HX hL hM
    go_enter Tryd.func58, Tryd.ntmps58
    go_wp2_with (go_at_call 73; refine HG.out.mono ?_; rintro e w1 ⟨rfl, hq, hk⟩; have hy := (HXX.out.kept hk hrp).c; have HQ := Lib.hid hq; have HK := Lib.hid hk; obtain ⟨y0, y1, y2⟩ := hy; clear hq hk)
    go_quiet (fail)
    go_wp2
    go_ret2
    exact ⟨rfl, HQ.out.drewN _, HK.out.drewN _⟩

/-- What taking a row's next number leaves. -/
def RowGot (w : World) (B p r : Nat) (v : Value) (bs : List Bool) (t : Nat) (n last step X : Int) (N : Nat) (e : Ending) (w' : World) : Prop :=
  e = .returned (.tuple #[.int .i64 X, .int .i64 0]) ∧ RowBox w' r (n + 1) X (stepOf n last step X) ∧ BrAt w' B p v bs (t + N) ∧ Kept (fun k => k = p ∨ k = r) w w'
def RowGotNo (w : World) (B p r : Nat) (v : Value) (bs : List Bool) (t : Nat) (n last step : Int) (E : Nat) (e : Ending) (w' : World) : Prop :=
  e = .returned (.tuple #[.int .i64 0, .int .i64 (E : Int)]) ∧ RowBox w' r n last step ∧ BrAt w' B p v bs t ∧ Kept (fun k => k = p) w w'

theorem gotSmall_E (l : List Bool) : (gotSmall l).2.2 ≠ 0 → (gotSmall l).2.1 = 0 ∧ (gotSmall l).1 = 0 := by
  rcases gotSmall_cases l with ⟨_, e⟩ | ⟨_, c, S, _, _, _, _, ⟨_, e⟩ | ⟨_, x, _, _, ⟨_, e⟩ | ⟨_, e⟩⟩⟩ <;> rw [e] <;> simp
theorem gotStep_E (l : List Bool) : (gotStep l).2.2 ≠ 0 → (gotStep l).2.1 = 0 ∧ (gotStep l).1 = 0 := by
  obtain ⟨K, S, _, _, _, _, ⟨_, _, e⟩ | ⟨A, _, _, ⟨_, e⟩ | ⟨_, x, _, _, ⟨_, e⟩ | ⟨_, e⟩⟩⟩⟩ := gotStep_cases l <;> rw [e] <;> simp
theorem nextGot_E (n last step : Int) (l : List Bool) : (nextGot n last step l).2.2 ≠ 0 → (nextGot n last step l).2.1 = 0 := by
  unfold nextGot; split
  · exact fun h => (gotSmall_E l h).1
  · exact fun h => (gotStep_E l h).1

set_option maxHeartbeats 1000000 in
theorem rowGet_yes (B p r : Nat) (v : Value) (bs : List Bool) (t : Nat) (n last step : Int) (w : World) (HR : BrAt w B p v bs t) (HX : RowBox w r n last step) (hrp : r ≠ p) (hrv : v.ownBlock ≠ some r) (hB : B ≤ w.heap.size) (hB1 : 1 < B) (hl : bs.length ≤ 100000000) (HT : Tabs w) (hn : 0 ≤ n) (hn2 : n ≤ 1000000)
    (hE : (nextGot n last step (bs.drop t)).2.2 = 0) :
    Calls Tryd.prog 31 #[.pointer (some ⟨r, 0, none⟩), .pointer (some ⟨p, 0, none⟩)] w (RowGot w B p r v bs t n last step (nextGot n last step (bs.drop t)).1 (nextGot n last step (bs.drop t)).2.1) := by
  have HG := rowNext_any B p r v bs t n last step w HR HX hrp hB hB1 hl HT
  rw [hE] at HG
  obtain ⟨X, hX⟩ : ∃ V, V = (nextGot n last step (bs.drop t)).1 := ⟨_, rfl⟩
  obtain ⟨N, hN⟩ : ∃ V, V = (nextGot n last step (bs.drop t)).2.1 := ⟨_, rfl⟩
  rw [← hX, ← hN] at HG ⊢
  have HG := Lib.hid HG
  have HXX := Lib.hid HX
  have HO := Lib.hid fun w1 h => goOn_any r n last step X w1 h hn (by omega)
  clear HR HT hX hN hE HX
  go_enter Tryd.func31, Tryd.ntmps31
  go_wp2_with (first
    | (go_at_call 58; refine HG.out.mono ?_; rintro e w1 ⟨rfl, hq, hk⟩; have HQ := Lib.hid hq; have HK := Lib.hid hk; clear hq hk)
    | (go_at_call 56; refine (HO.out _ (HXX.out.kept HK.out hrp)).mono ?_; rintro e w2 ⟨rfl, hx2, hk2⟩; have HX2 := Lib.hid hx2; have HK2 := Lib.hid hk2; clear hx2 hk2))
  go_ret2
  exact ⟨rfl, HX2.out, HQ.out.kept HK2.out (fun e => hrp e.symm) (fun k e x => hrv (by rw [e, x])), (HK.out.mono (fun _ _ e => .inl e)).trans (HK2.out.mono (fun _ _ e => .inr e))⟩

set_option maxHeartbeats 1000000 in
theorem rowGet_no (B p r : Nat) (v : Value) (bs : List Bool) (t : Nat) (n last step : Int) (w : World) (HR : BrAt w B p v bs t) (HX : RowBox w r n last step) (hrp : r ≠ p) (hB : B ≤ w.heap.size) (hB1 : 1 < B) (hl : bs.length ≤ 100000000) (HT : Tabs w)
    (hE : (nextGot n last step (bs.drop t)).2.2 ≠ 0) :
    Calls Tryd.prog 31 #[.pointer (some ⟨r, 0, none⟩), .pointer (some ⟨p, 0, none⟩)] w (RowGotNo w B p r v bs t n last step (nextGot n last step (bs.drop t)).2.2) := by
  have HG := rowNext_any B p r v bs t n last step w HR HX hrp hB hB1 hl HT
  have hN := nextGot_E n last step (bs.drop t) hE
  rw [hN] at HG
  obtain ⟨X, hX⟩ : ∃ V, V = (nextGot n last step (bs.drop t)).1 := ⟨_, rfl⟩
  obtain ⟨E, hEE⟩ : ∃ V, V = (nextGot n last step (bs.drop t)).2.2 := ⟨_, rfl⟩
  rw [← hX, ← hEE] at HG
  rw [← hEE] at hE ⊢
  have HG := Lib.hid HG
  have HXX := Lib.hid HX
  have q : ((E : Int) != 0) = true := by simp; omega
  clear HR HT hX hN hEE HX hE
  go_enter Tryd.func31, Tryd.ntmps31
  go_wp2_with (go_at_call 58; refine HG.out.mono ?_; rintro e w1 ⟨rfl, hq, hk⟩; have HQ := Lib.hid hq; have HK := Lib.hid hk; clear hq hk)
  go_ret2
  exact ⟨rfl, HXX.out.kept HK.out hrp, HQ.out, HK.out⟩
end Go.Proofs.YtaagjedkojlbpaaDoor
