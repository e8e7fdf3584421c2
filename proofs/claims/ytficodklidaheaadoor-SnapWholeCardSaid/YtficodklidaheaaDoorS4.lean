/- Layer 18: a call that changes begins; is a file there; Fail, Crash. -/
import Derived.Test.YtficodklidaheaaDoorS1
import Derived.Test.YtficodklidaheaaDoorS3
import Derived.Lib.MinMax
namespace Go.Proofs.YtficodklidaheaaDoor
open Go.RowKit
attribute [local go_sem ↓] Go.wp_at_zero Go.wp_at_succ

theorem cellD_set2 (a0 a1 a2 a3 a4 a5 a6 a7 u : Value) : (#[a0, a1, a2, a3, a4, a5, a6, a7] : Array Value).set! 2 u = #[a0, a1, u, a3, a4, a5, a6, a7] := rfl
theorem countedD_box {base : Nat} {w : World} {db mb : Nat} {L : List (ByteArray × Fi)} {D : DA} (h : DK base w db mb L D) :
    DK base (((w.setCell ⟨db, 4, none⟩ (.int .i64 (wrap64 (D.calls + 1)))).setCell ⟨db, 7, none⟩ (.int .i64 (max (-1) (D.crashIn - 1)))).setCell ⟨db, 5, none⟩ (.int .i64 (max (-1) (D.failIn - 1)))) db mb L (countedD D) :=
  h.turned (((h.box.set 4 _).set 7 _).set 5 _) (((kept_set w db 4 _).trans (kept_set _ db 7 _)).trans (kept_set _ db 5 _)) rfl (countedD_ok h.ok)
theorem downD_box {base : Nat} {w : World} {db mb : Nat} {L : List (ByteArray × Fi)} {D : DA} (h : DK base w db mb L D) : DK base (w.setCell ⟨db, 3, none⟩ (.bool true)) db mb L { D with down := true } :=
  h.turned (h.box.set 3 _) (kept_set w db 3 _) rfl (down_ok h.ok true)
/-- What is left of a call ahead of a change. -/
def BeganTo (base : Nat) (w : World) (db mb : Nat) (L : List (ByteArray × Fi)) (r : DA × Int) (e : Ending) (w' : World) : Prop := e = .returned (.int .i64 r.2) ∧ DK base w' db mb L r.1 ∧ Kept (fun k => k = db) w w'
set_option maxHeartbeats 4000000 in
theorem dchange_any (base db mb : Nat) (L : List (ByteArray × Fi)) (D : DA) (w : World) (h : DK base w db mb L D) :
    Calls Tryd.prog 91 #[.pointer (some ⟨db, 0, none⟩)] w (BeganTo base w db mb L (beginD D)) := by
  obtain ⟨c0, c1, c2, c3, c4, c5, c6, c7⟩ := h.c
  cases hd : D.down with
  | true =>
    have HX := Lib.hid (show BeganTo base w db mb L (beginD D) (.returned (.int .i64 13)) w from by unfold beginD; rw [if_pos hd]; exact ⟨rfl, h, Kept.refl _ _⟩)
    rw [hd] at c3
    clear hd h c0 c1 c2 c4 c5 c6 c7
    go_enter Tryd.func91, Tryd.ntmps91
    go_wp2
    go_ret
    exact HX.out
  | false =>
    rw [hd] at c3
    have f4 := h.box.fz 4
    have f5 := h.box.fz 5
    have f7 := h.box.fz 7
    have f3 := h.box.fz 3
    obtain ⟨r1, r2⟩ := h.ok.failR
    obtain ⟨r3, r4⟩ := h.ok.crashR
    by_cases hc : D.crashIn = 0
    · have q1 : (D.crashIn == 0) = true := beq_iff_eq.2 hc
      have HX := Lib.hid (show BeganTo base w db mb L (beginD D) (.returned (.int .i64 13)) (((((w.setCell ⟨db, 4, none⟩ (.int .i64 (wrap64 (D.calls + 1)))).setCell ⟨db, 7, none⟩ (.int .i64 (max (-1) (D.crashIn - 1)))).setCell ⟨db, 5, none⟩ (.int .i64 (max (-1) (D.failIn - 1)))).setCell ⟨db, 3, none⟩ (.bool true)).drew) from by
        unfold beginD
        rw [hd, if_neg (by decide), if_pos hc]
        exact ⟨rfl, (downD_box (countedD_box h)).kept ((Kept.refl (fun _ => False) _).drew) (fun _ _ x => x), ((((kept_set w db 4 _).trans (kept_set _ db 7 _)).trans (kept_set _ db 5 _)).trans (kept_set _ db 3 _)).drew⟩)
      clear h hc hd
      go_enter Tryd.func91, Tryd.ntmps91
      go_upto_region 3 with fail
      go_region
      go_wp2
      go_ret
      exact HX.out
    have q1 : (D.crashIn == 0) = false := beq_eq_false_iff_ne.2 hc
    have hkk := ((kept_set w db 4 (.int .i64 (wrap64 (D.calls + 1)))).trans (kept_set _ db 7 (.int .i64 (max (-1) (D.crashIn - 1))))).trans (kept_set _ db 5 (.int .i64 (max (-1) (D.failIn - 1))))
    by_cases hf : D.failIn = 0
    · have q2 : (D.failIn == 0) = true := beq_iff_eq.2 hf
      have HX := Lib.hid (show BeganTo base w db mb L (beginD D) (.returned (.int .i64 D.failBy)) ((((w.setCell ⟨db, 4, none⟩ (.int .i64 (wrap64 (D.calls + 1)))).setCell ⟨db, 7, none⟩ (.int .i64 (max (-1) (D.crashIn - 1)))).setCell ⟨db, 5, none⟩ (.int .i64 (max (-1) (D.failIn - 1)))).drew) from by
        unfold beginD
        rw [hd, if_neg (by decide), if_neg hc, if_pos hf]
        exact ⟨rfl, (countedD_box h).kept ((Kept.refl (fun _ => False) _).drew) (fun _ _ x => x), hkk.drew⟩)
      clear h hc hd hf hkk
      go_enter Tryd.func91, Tryd.ntmps91
      go_upto_region 3 with fail
      go_region
      go_wp2
      go_ret
      exact HX.out
    · have q2 : (D.failIn == 0) = false := beq_eq_false_iff_ne.2 hf
      have HX := Lib.hid (show BeganTo base w db mb L (beginD D) (.returned (.int .i64 0)) ((((w.setCell ⟨db, 4, none⟩ (.int .i64 (wrap64 (D.calls + 1)))).setCell ⟨db, 7, none⟩ (.int .i64 (max (-1) (D.crashIn - 1)))).setCell ⟨db, 5, none⟩ (.int .i64 (max (-1) (D.failIn - 1)))).drew) from by
        unfold beginD
        rw [hd, if_neg (by decide), if_neg hc, if_neg hf]
        exact ⟨rfl, (countedD_box h).kept ((Kept.refl (fun _ => False) _).drew) (fun _ _ x => x), hkk.drew⟩)
      clear h hc hd hf hkk
      go_enter Tryd.func91, Tryd.ntmps91
      go_upto_region 3 with fail
      go_region
      go_wp2
      go_ret
      exact HX.out
theorem DK.name_size {base : Nat} {w : World} {db mb : Nat} {L : List (ByteArray × Fi)} {D : DA} (h : DK base w db mb L D) {s : ByteArray} {f : Fi} (hs : getM L s = some f) : nameB s = true := by
  have := h.get s
  rw [hs] at this
  exact h.ok.name _ (getM_mem this.symm)
theorem zero_file (w : World) : (zeroValue 114).run Tryd.prog w = .ok (.agg #[.slice none 0 0, .int .i64 0]) w := by kernel_rfl
def nilFile : Fi := ⟨none, 0, [], 0⟩
/-- What stands in the map at a name. -/
def lookF (L : List (ByteArray × Fi)) (s : ByteArray) : Fi := (getM L s).getD nilFile
theorem DK.look {base : Nat} {w : World} {db mb : Nat} {L : List (ByteArray × Fi)} {D : DA} (h : DK base w db mb L D) {s : ByteArray} (hs : s.size ≤ maxLen) :
    (Instr.lookup 109 (.map (some mb)) (.string s) false).run Tryd.prog w = .ok (.agg #[.slice (lookF L s).a (lookF L s).b.length (lookF L s).c, .int .i64 ((lookF L s).s : Int)]) w ∧
    (Instr.lookup 109 (.map (some mb)) (.string s) true).run Tryd.prog w = .ok (.tuple #[.agg #[.slice (lookF L s).a (lookF L s).b.length (lookF L s).c, .int .i64 ((lookF L s).s : Int)], .bool (getM D.L s).isSome]) w := by
  have h1 := fun c => h.map.lookup Tryd.underlying9 Tryd.underlying109 (zero_file w) hs c
  have h2 := h.get s
  rw [getM_map] at h1
  have h3 := h1 false
  have h4 := h1 true
  rw [← h2]
  unfold lookF
  cases hx : getM L s with
  | none => rw [hx] at h3 h4; exact ⟨h3, h4⟩
  | some f => rw [hx] at h3 h4; exact ⟨h3, h4⟩
set_option maxHeartbeats 1000000 in
theorem dhas_any (base db mb : Nat) (L : List (ByteArray × Fi)) (D : DA) (s : ByteArray) (hs : s.size ≤ maxLen) (w : World) (h : DK base w db mb L D) :
    Calls Tryd.prog 65 #[.pointer (some ⟨db, 0, none⟩), .string s] w fun e w' => e = .returned (.bool (getM D.L s).isSome) ∧ Kept (fun _ => False) w w' := by
  have c0 := h.c.1
  have hl := (h.look hs).2
  have HK := Lib.hid ((Kept.refl (fun _ => False) w).alloc (.cells #[.slice (lookF L s).a (lookF L s).b.length (lookF L s).c, .int .i64 ((lookF L s).s : Int)] 114))
  clear h
  go_enter Tryd.func65, Tryd.ntmps65
  go_wp2
  go_ret
  exact ⟨rfl, HK.out⟩
/-- A call that changes a file that must be there begins. -/
def beginOf (D : DA) (s : ByteArray) : DA × Int := if (beginD D).2 = 0 then (if (getM D.L s).isSome = true then ((beginD D).1, 0) else ((beginD D).1, 7)) else beginD D
set_option maxHeartbeats 1000000 in
theorem dchangeOf_any (base db mb : Nat) (L : List (ByteArray × Fi)) (D : DA) (s : ByteArray) (hs : s.size ≤ maxLen) (w : World) (h : DK base w db mb L D) :
    Calls Tryd.prog 81 #[.pointer (some ⟨db, 0, none⟩), .string s] w (BeganTo base w db mb L (beginOf D s)) := by
  have HC := Lib.hid (dchange_any base db mb L D w h)
  obtain ⟨r, hr⟩ : ∃ r, r = beginD D := ⟨_, rfl⟩
  have hL := (beginD_L D).1
  rw [← hr] at HC hL
  obtain ⟨D1, z⟩ := r
  have HX : Hid ((z = 0 → beginOf D s = if (getM D1.L s).isSome = true then (D1, 0) else (D1, 7)) ∧ (z ≠ 0 → beginOf D s = (D1, z))) := Lib.hid ⟨fun e => by unfold beginOf; rw [← hr, if_pos e]; simp only at hL; rw [hL], fun e => by unfold beginOf; rw [← hr, if_neg e]⟩
  have HS := Lib.hid hs
  clear hr hL hs h
  go_enter Tryd.func81, Tryd.ntmps81
  go_wp2_with fail
  refine HC.out.mono ?_
  rintro e w1 ⟨rfl, h1, hk1⟩
  have HD := Lib.hid h1
  have HK := Lib.hid hk1
  have HH := Lib.hid (dhas_any base db mb L D1 s HS.out w1 h1)
  clear h1 hk1
  by_cases hz : z = 0
  · have q0 : (z == 0) = true := beq_iff_eq.2 hz
    have HY := Lib.hid (HX.out.1 hz)
    subst hz
    cases hb : (getM D1.L s).isSome with
    | true =>
      rw [hb] at HY HH
      clear hb
      go_wp2_with fail
      refine HH.out.mono ?_
      rintro e w2 ⟨rfl, k2⟩
      have HK2 := Lib.hid k2
      clear k2
      go_wp2
      go_ret
      rw [HY.out]
      exact ⟨rfl, HD.out.kept HK2.out (fun _ _ x => x), HK.out.trans (HK2.out.mono (fun _ _ x => x.elim))⟩
    | false =>
      rw [hb] at HY HH
      clear hb
      go_wp2_with fail
      refine HH.out.mono ?_
      rintro e w2 ⟨rfl, k2⟩
      have HK2 := Lib.hid k2
      clear k2
      go_wp2
      go_ret
      rw [HY.out]
      exact ⟨rfl, HD.out.kept HK2.out (fun _ _ x => x), HK.out.trans (HK2.out.mono (fun _ _ x => x.elim))⟩
  · have q0 : (z == 0) = false := beq_eq_false_iff_ne.2 hz
    have HY := Lib.hid (HX.out.2 hz)
    clear hz
    go_wp2
    go_ret
    rw [HY.out]
    exact ⟨rfl, HD.out, HK.out⟩
set_option maxHeartbeats 1000000 in
theorem dFail_any (base db mb : Nat) (L : List (ByteArray × Fi)) (D : DA) (after z : Int) (ha : I64 after) (w : World) (h : DK base w db mb L D) :
    Calls Tryd.prog 43 #[.pointer (some ⟨db, 0, none⟩), .int .i64 after, .int .i64 z] w fun e w' => e = .returned (.tuple #[]) ∧ DK base w' db mb L (failD D after z) ∧ Kept (fun k => k = db) w w' := by
  obtain ⟨c0, c1, c2, c3, c4, c5, c6, c7⟩ := h.c
  have f5 := h.box.fz 5
  have f6 := h.box.fz 6
  by_cases hz : z = 0
  · have q0 : (z == 0) = true := beq_iff_eq.2 hz
    have HX := Lib.hid (show DK base ((w.setCell ⟨db, 5, none⟩ (.int .i64 (-1))).setCell ⟨db, 6, none⟩ (.int .i64 z)) db mb L (failD D after z) from
      h.turned (by
        have := (h.box.set 5 (.int .i64 (-1))).set 6 (.int .i64 z)
        unfold failD
        rw [if_pos hz]
        exact this) ((kept_set w db 5 _).trans (kept_set _ db 6 _)) rfl (failD_ok h.ok after z ha))
    clear h hz
    go_enter Tryd.func43, Tryd.ntmps43
    go_wp2
    go_end0
    exact ⟨rfl, HX.out, (kept_set w db 5 _).trans (kept_set _ db 6 _)⟩
  · have q0 : (z == 0) = false := beq_eq_false_iff_ne.2 hz
    have HX := Lib.hid (show DK base ((w.setCell ⟨db, 5, none⟩ (.int .i64 (max (-1) after))).setCell ⟨db, 6, none⟩ (.int .i64 z)) db mb L (failD D after z) from
      h.turned (by
        have := (h.box.set 5 (.int .i64 (max (-1) after))).set 6 (.int .i64 z)
        unfold failD armN
        rw [if_neg hz]
        exact this) ((kept_set w db 5 _).trans (kept_set _ db 6 _)) rfl (failD_ok h.ok after z ha))
    clear h hz
    go_enter Tryd.func43, Tryd.ntmps43
    go_wp2
    go_end0
    exact ⟨rfl, HX.out, (kept_set w db 5 _).trans (kept_set _ db 6 _)⟩
set_option maxHeartbeats 1000000 in
theorem dCrash_any (base db mb : Nat) (L : List (ByteArray × Fi)) (D : DA) (after : Int) (ha : I64 after) (w : World) (h : DK base w db mb L D) :
    Calls Tryd.prog 30 #[.pointer (some ⟨db, 0, none⟩), .int .i64 after] w fun e w' => e = .returned (.tuple #[]) ∧ DK base w' db mb L (crashD D after) ∧ Kept (fun k => k = db) w w' := by
  obtain ⟨c0, c1, c2, c3, c4, c5, c6, c7⟩ := h.c
  have f7 := h.box.fz 7
  have HX := Lib.hid (show DK base (w.setCell ⟨db, 7, none⟩ (.int .i64 (max (-1) after))) db mb L (crashD D after) from
    h.turned (h.box.set 7 (.int .i64 (max (-1) after))) (kept_set w db 7 _) rfl (crashD_ok h.ok after ha))
  clear h
  go_enter Tryd.func30, Tryd.ntmps30
  go_wp2
  go_end0
  exact ⟨rfl, HX.out, kept_set w db 7 _⟩
end Go.Proofs.YtficodklidaheaaDoor
