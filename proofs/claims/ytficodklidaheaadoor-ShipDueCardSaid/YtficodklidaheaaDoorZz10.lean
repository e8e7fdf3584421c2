/- Texts put together: S4, S5, RS. -/
import Derived.Test.YtficodklidaheaaDoorZz4
import Derived.Test.YtficodklidaheaaDoorZz9
import Derived.Lib.MinMax
import Derived.Test.YtficodklidaheaaDoorProg
import Derived.Test.YtficodklidaheaaDoorZz2
/- Layer 18: a call that changes begins; is a file there; Fail, Crash. -/
namespace Go.Proofs.YtficodklidaheaaDoor
open Go.RowKit
attribute [local go_sem ↓] Go.wp_at_zero Go.wp_at_succ

theorem cellD_set2 (a0 a1 a2 a3 a4 a5 a6 a7 u : Value) : (#[a0, a1, a2, a3, a4, a5, a6, a7] : Array Value).set! 2 u = #[a0, a1, u, a3, a4, a5, a6, a7] := rfl
theorem countedD_box {base : Nat} {w : World} {db mb : Nat} {L : List (ByteArray × Fi)} {D : DA} (h : DK base w db mb L D) :
    DK base (((w.setCell ⟨db, 4, none⟩ (.int .i64 (wrap64 (D.calls + 1)))).setCell ⟨db, 7, none⟩ (.int .i64 (max (-1) (D.crashIn - 1)))).setCell ⟨db, 5, none⟩ (.int .i64 (max (-1) (D.failIn - 1)))) db mb L (countedD D) :=
  h.turned (((h.box.set 4 _).set 7 _).set 5 _) (((kept_set w db 4 _).trans (kept_set _ db 7 _)).trans (kept_set _ db 5 _)) rfl (countedD_ok h.ok)
theorem downD_box {base : Nat} {w : World} {db mb : Nat} {L : List (ByteArray × Fi)} {D : DA} (h : DK base w db mb L D) : DK base (w.setCell ⟨db, 3, none⟩ (.bool true)) db mb L { D with down := true } :=
  h.turned (h.box.set 3 _) (kept_set w db 3 _) rfl (down_ok h.ok true)
/-- What is left of a call ahead of a change. -/
def BeganTo (base : Nat) (w : World) (db mb : Nat) (L : List (ByteArray × Fi)) (r : DA × Int) (e : Ending) (w' : World) : Prop := e = .returned (.int .i64 r.2) ∧ DK base w' db mb L r.1 ∧ Kept (fun k => k = db) w w'
set_option maxHeartbeats 4000000 in
theorem dchange_any (base db mb : Nat) (L : List (ByteArray × Fi)) (D : DA) (w : World) (h : DK base w db mb L D) :
    Calls Tryd.prog 91 #[.pointer (some ⟨db, 0, none⟩)] w (BeganTo base w db mb L (beginD D)) := by
  obtain ⟨c0, c1, c2, c3, c4, c5, c6, c7⟩ := h.c
  cases hd : D.down with
  | true =>
    have HX := Lib.hid (show BeganTo base w db mb L (beginD D) (.returned (.int .i64 13)) w from by unfold beginD; rw [if_pos hd]; exact ⟨rfl, h, Kept.refl _ _⟩)
    rw [hd] at c3
    clear hd h c0 c1 c2 c4 c5 c6 c7
    go_enter Tryd.func91, Tryd.ntmps91
    go_wp2
    go_ret
    exact HX.out
  | false =>
    rw [hd] at c3
    have f4 := h.box.fz 4
    have f5 := h.box.fz 5
    have f7 := h.box.fz 7
    have f3 := h.box.fz 3
    obtain ⟨r1, r2⟩ := h.ok.failR
    obtain ⟨r3, r4⟩ := h.ok.crashR
    by_cases hc : D.crashIn = 0
    · have q1 : (D.crashIn == 0) = true := beq_iff_eq.2 hc
      have HX := Lib.hid (show BeganTo base w db mb L (beginD D) (.returned (.int .i64 13)) (((((w.setCell ⟨db, 4, none⟩ (.int .i64 (wrap64 (D.calls + 1)))).setCell ⟨db, 7, none⟩ (.int .i64 (max (-1) (D.crashIn - 1)))).setCell ⟨db, 5, none⟩ (.int .i64 (max (-1) (D.failIn - 1)))).setCell ⟨db, 3, none⟩ (.bool true)).drew) from by
        unfold beginD
        rw [hd, if_neg (by decide), if_pos hc]
        exact ⟨rfl, (downD_box (countedD_box h)).kept ((Kept.refl (fun _ => False) _).drew) (fun _ _ x => x), ((((kept_set w db 4 _).trans (kept_set _ db 7 _)).trans (kept_set _ db 5 _)).trans (kept_set _ db 3 _)).drew⟩)
      clear h hc hd
      go_enter Tryd.func91, Tryd.ntmps91
      go_upto_region 3 with fail
      go_region
      go_wp2
      go_ret
      exact HX.out
    have q1 : (D.crashIn == 0) = false := beq_eq_false_iff_ne.2 hc
    have hkk := ((kept_set w db 4 (.int .i64 (wrap64 (D.calls + 1)))).trans (kept_set _ db 7 (.int .i64 (max (-1) (D.crashIn - 1))))).trans (kept_set _ db 5 (.int .i64 (max (-1) (D.failIn - 1))))
    by_cases hf : D.failIn = 0
    · have q2 : (D.failIn == 0) = true := beq_iff_eq.2 hf
      have HX := Lib.hid (show BeganTo base w db mb L (beginD D) (.returned (.int .i64 D.failBy)) ((((w.setCell ⟨db, 4, none⟩ (.int .i64 (wrap64 (D.calls + 1)))).setCell ⟨db, 7, none⟩ (.int .i64 (max (-1) (D.crashIn - 1)))).setCell ⟨db, 5, none⟩ (.int .i64 (max (-1) (D.failIn - 1)))).drew) from by
        unfold beginD
        rw [hd, if_neg (by decide), if_neg hc, if_pos hf]
        exact ⟨rfl, (countedD_box h).kept ((Kept.refl (fun _ => False) _).drew) (fun _ _ x => x), hkk.drew⟩)
      clear h hc hd hf hkk
      go_enter Tryd.func91, Tryd.ntmps91
      go_upto_region 3 with fail
      go_region
      go_wp2
      go_ret
      exact HX.out
    · have q2 : (D.failIn == 0) = false := beq_eq_false_iff_ne.2 hf
      have HX := Lib.hid (show BeganTo base w db mb L (beginD D) (.returned (.int .i64 0)) ((((w.setCell ⟨db, 4, none⟩ (.int .i64 (wrap64 (D.calls + 1)))).setCell ⟨db, 7, none⟩ (.int .i64 (max (-1) (D.crashIn - 1)))).setCell ⟨db, 5, none⟩ (.int .i64 (max (-1) (D.failIn - 1)))).drew) from by
        unfold beginD
        rw [hd, if_neg (by decide), if_neg hc, if_neg hf]
        exact ⟨rfl, (countedD_box h).kept ((Kept.refl (fun _ => False) _).drew) (fun _ _ x => x), hkk.drew⟩)
      clear h hc hd hf hkk
      go_enter Tryd.func91, Tryd.ntmps91
      go_upto_region 3 with fail
      go_region
      go_wp2
      go_ret
      exact HX.out
theorem DK.name_size {base : Nat} {w : World} {db mb : Nat} {L : List (ByteArray × Fi)} {D : DA} (h : DK base w db mb L D) {s : ByteArray} {f : Fi} (hs : getM L s = some f) : nameB s = true := by
  have := h.get s
  rw [hs] at this
  exact h.ok.name _ (getM_mem this.symm)
theorem zero_file (w : World) : (zeroValue 114).run Tryd.prog w = .ok (.agg #[.slice none 0 0, .int .i64 0]) w := by kernel_rfl
def nilFile : Fi := ⟨none, 0, [], 0⟩
/-- What stands in the map at a name. -/
def lookF (L : List (ByteArray × Fi)) (s : ByteArray) : Fi := (getM L s).getD nilFile
theorem DK.look {base : Nat} {w : World} {db mb : Nat} {L : List (ByteArray × Fi)} {D : DA} (h : DK base w db mb L D) {s : ByteArray} (hs : s.size ≤ maxLen) :
    (Instr.lookup 109 (.map (some mb)) (.string s) false).run Tryd.prog w = .ok (.agg #[.slice (lookF L s).a (lookF L s).b.length (lookF L s).c, .int .i64 ((lookF L s).s : Int)]) w ∧
    (Instr.lookup 109 (.map (some mb)) (.string s) true).run Tryd.prog w = .ok (.tuple #[.agg #[.slice (lookF L s).a (lookF L s).b.length (lookF L s).c, .int .i64 ((lookF L s).s : Int)], .bool (getM D.L s).isSome]) w := by
  have h1 := fun c => h.map.lookup Tryd.underlying9 Tryd.underlying109 (zero_file w) hs c
  have h2 := h.get s
  rw [getM_map] at h1
  have h3 := h1 false
  have h4 := h1 true
  rw [← h2]
  unfold lookF
  cases hx : getM L s with
  | none => rw [hx] at h3 h4; exact ⟨h3, h4⟩
  | some f => rw [hx] at h3 h4; exact ⟨h3, h4⟩
set_option maxHeartbeats 1000000 in
theorem dhas_any (base db mb : Nat) (L : List (ByteArray × Fi)) (D : DA) (s : ByteArray) (hs : s.size ≤ maxLen) (w : World) (h : DK base w db mb L D) :
    Calls Tryd.prog 65 #[.pointer (some ⟨db, 0, none⟩), .string s] w fun e w' => e = .returned (.bool (getM D.L s).isSome) ∧ Kept (fun _ => False) w w' := by
  have c0 := h.c.1
  have hl := (h.look hs).2
  have HK := Lib.hid ((Kept.refl (fun _ => False) w).alloc (.cells #[.slice (lookF L s).a (lookF L s).b.length (lookF L s).c, .int .i64 ((lookF L s).s : Int)] 114))
  clear h
  go_enter Tryd.func65, Tryd.ntmps65
  go_wp2
  go_ret
  exact ⟨rfl, HK.out⟩
/-- A call that changes a file that must be there begins. -/
def beginOf (D : DA) (s : ByteArray) : DA × Int := if (beginD D).2 = 0 then (if (getM D.L s).isSome = true then ((beginD D).1, 0) else ((beginD D).1, 7)) else beginD D
set_option maxHeartbeats 1000000 in
theorem dchangeOf_any (base db mb : Nat) (L : List (ByteArray × Fi)) (D : DA) (s : ByteArray) (hs : s.size ≤ maxLen) (w : World) (h : DK base w db mb L D) :
    Calls Tryd.prog 81 #[.pointer (some ⟨db, 0, none⟩), .string s] w (BeganTo base w db mb L (beginOf D s)) := by
  have HC := Lib.hid (dchange_any base db mb L D w h)
  obtain ⟨r, hr⟩ : ∃ r, r = beginD D := ⟨_, rfl⟩
  have hL := (beginD_L D).1
  rw [← hr] at HC hL
  obtain ⟨D1, z⟩ := r
  have HX : Hid ((z = 0 → beginOf D s = if (getM D1.L s).isSome = true then (D1, 0) else (D1, 7)) ∧ (z ≠ 0 → beginOf D s = (D1, z))) := Lib.hid ⟨fun e => by unfold beginOf; rw [← hr, if_pos e]; simp only at hL; rw [hL], fun e => by unfold beginOf; rw [← hr, if_neg e]⟩
  have HS := Lib.hid hs
  clear hr hL hs h
  go_enter Tryd.func81, Tryd.ntmps81
  go_wp2_with fail
  refine HC.out.mono ?_
  rintro e w1 ⟨rfl, h1, hk1⟩
  have HD := Lib.hid h1
  have HK := Lib.hid hk1
  have HH := Lib.hid (dhas_any base db mb L D1 s HS.out w1 h1)
  clear h1 hk1
  by_cases hz : z = 0
  · have q0 : (z == 0) = true := beq_iff_eq.2 hz
    have HY := Lib.hid (HX.out.1 hz)
    subst hz
    cases hb : (getM D1.L s).isSome with
    | true =>
      rw [hb] at HY HH
      clear hb
      go_wp2_with fail
      refine HH.out.mono ?_
      rintro e w2 ⟨rfl, k2⟩
      have HK2 := Lib.hid k2
      clear k2
      go_wp2
      go_ret
      rw [HY.out]
      exact ⟨rfl, HD.out.kept HK2.out (fun _ _ x => x), HK.out.trans (HK2.out.mono (fun _ _ x => x.elim))⟩
    | false =>
      rw [hb] at HY HH
      clear hb
      go_wp2_with fail
      refine HH.out.mono ?_
      rintro e w2 ⟨rfl, k2⟩
      have HK2 := Lib.hid k2
      clear k2
      go_wp2
      go_ret
      rw [HY.out]
      exact ⟨rfl, HD.out.kept HK2.out (fun _ _ x => x), HK.out.trans (HK2.out.mono (fun _ _ x => x.elim))⟩
  · have q0 : (z == 0) = false := beq_eq_false_iff_ne.2 hz
    have HY := Lib.hid (HX.out.2 hz)
    clear hz
    go_wp2
    go_ret
    rw [HY.out]
    exact ⟨rfl, HD.out, HK.out⟩
set_option maxHeartbeats 1000000 in
theorem dFail_any (base db mb : Nat) (L : List (ByteArray × Fi)) (D : DA) (after z : Int) (ha : I64 after) (w : World) (h : DK base w db mb L D) :
    Calls Tryd.prog 43 #[.pointer (some ⟨db, 0, none⟩), .int .i64 after, .int .i64 z] w fun e w' => e = .returned (.tuple #[]) ∧ DK base w' db mb L (failD D after z) ∧ Kept (fun k => k = db) w w' := by
  obtain ⟨c0, c1, c2, c3, c4, c5, c6, c7⟩ := h.c
  have f5 := h.box.fz 5
  have f6 := h.box.fz 6
  by_cases hz : z = 0
  · have q0 : (z == 0) = true := beq_iff_eq.2 hz
    have HX := Lib.hid (show DK base ((w.setCell ⟨db, 5, none⟩ (.int .i64 (-1))).setCell ⟨db, 6, none⟩ (.int .i64 z)) db mb L (failD D after z) from
      h.turned (by
        have := (h.box.set 5 (.int .i64 (-1))).set 6 (.int .i64 z)
        unfold failD
        rw [if_pos hz]
        exact this) ((kept_set w db 5 _).trans (kept_set _ db 6 _)) rfl (failD_ok h.ok after z ha))
    clear h hz
    go_enter Tryd.func43, Tryd.ntmps43
    go_wp2
    go_end0
    exact ⟨rfl, HX.out, (kept_set w db 5 _).trans (kept_set _ db 6 _)⟩
  · have q0 : (z == 0) = false := beq_eq_false_iff_ne.2 hz
    have HX := Lib.hid (show DK base ((w.setCell ⟨db, 5, none⟩ (.int .i64 (max (-1) after))).setCell ⟨db, 6, none⟩ (.int .i64 z)) db mb L (failD D after z) from
      h.turned (by
        have := (h.box.set 5 (.int .i64 (max (-1) after))).set 6 (.int .i64 z)
        unfold failD armN
        rw [if_neg hz]
        exact this) ((kept_set w db 5 _).trans (kept_set _ db 6 _)) rfl (failD_ok h.ok after z ha))
    clear h hz
    go_enter Tryd.func43, Tryd.ntmps43
    go_wp2
    go_end0
    exact ⟨rfl, HX.out, (kept_set w db 5 _).trans (kept_set _ db 6 _)⟩
set_option maxHeartbeats 1000000 in
theorem dCrash_any (base db mb : Nat) (L : List (ByteArray × Fi)) (D : DA) (after : Int) (ha : I64 after) (w : World) (h : DK base w db mb L D) :
    Calls Tryd.prog 30 #[.pointer (some ⟨db, 0, none⟩), .int .i64 after] w fun e w' => e = .returned (.tuple #[]) ∧ DK base w' db mb L (crashD D after) ∧ Kept (fun k => k = db) w w' := by
  obtain ⟨c0, c1, c2, c3, c4, c5, c6, c7⟩ := h.c
  have f7 := h.box.fz 7
  have HX := Lib.hid (show DK base (w.setCell ⟨db, 7, none⟩ (.int .i64 (max (-1) after))) db mb L (crashD D after) from
    h.turned (h.box.set 7 (.int .i64 (max (-1) after))) (kept_set w db 7 _) rfl (crashD_ok h.ok after ha))
  clear h
  go_enter Tryd.func30, Tryd.ntmps30
  go_wp2
  go_end0
  exact ⟨rfl, HX.out, kept_set w db 7 _⟩
end Go.Proofs.YtficodklidaheaaDoor
/- Layer 18: what a store into the files leaves; bytes.Clone; Create, Sync, Remove, Size, Read. -/
namespace Go.Proofs.YtficodklidaheaaDoor
open Go.RowKit
attribute [local go_sem ↓] Go.wp_at_zero Go.wp_at_succ

theorem setM_mem' {α : Type} {L : List (ByteArray × α)} (hn : L.Pairwise fun p q => p.1 ≠ q.1) {s : ByteArray} {v : α} {p : ByteArray × α} (h : p ∈ setM L s v) : p = (s, v) ∨ (p ∈ L ∧ p.1 ≠ s) := by
  have h1 := getM_of (setM_pair hn s v) (s := p.1) (v := p.2) h
  rw [getM_set] at h1
  by_cases e : s = p.1
  · rw [if_pos e] at h1
    injection h1 with h1
    exact .inl (Prod.ext e.symm h1.symm)
  · rw [if_neg e] at h1
    exact .inr ⟨getM_mem h1, Ne.symm e⟩
section
variable {base : Nat} {w w' : World} {db mb : Nat} {L : List (ByteArray × Fi)} {D D' : DA}
theorem DK.ofGet (h : L.Pairwise fun p q => p.1 ≠ q.1) (ok : DOk D') (hg : ∀ t, (getM L t).map Fi.t = getM D'.L t) : (mapM Fi.t L).Perm D'.L :=
  perm_of_get (mapM_pair _ h) ok.asc.pair (fun t => by rw [getM_map, hg])
theorem DK.noBox (h : DK base w db mb L D) {p : ByteArray × Fi} (hp : p ∈ L) {k : Nat} (hk : p.2.v.ownBlock = some k) : k ≠ db ∧ k ≠ mb := by
  obtain ⟨cur, h1, _⟩ := (h.data p hp).block hk
  constructor
  · intro x
    have hb := h.box
    unfold BoxAt at hb
    rw [x, hb] at h1
    injection h1 with h1
    injection h1 with _ h1
    exact absurd h1 (by decide)
  · exact h.map.notCells h1
theorem lookF_some {s : ByteArray} {f : Fi} (h : getM L s = some f) : lookF L s = f := by unfold lookF; rw [h]; rfl
theorem lookF_none {s : ByteArray} (h : getM L s = none) : lookF L s = nilFile := by unfold lookF; rw [h]; rfl
/-- The block of what stands at another name. -/
theorem DK.other (h : DK base w db mb L D) {s : ByteArray} {p : ByteArray × Fi} (hp : p ∈ L) (hne : p.1 ≠ s) {k : Nat} (hk : p.2.v.ownBlock = some k) : (lookF L s).v.ownBlock ≠ some k := by
  cases hx : getM L s with
  | none => rw [lookF_none hx]; intro e; cases e
  | some f => rw [lookF_some hx]; exact h.sep p hp (s, f) (getM_mem hx) hne k hk
/-- Which blocks a disk's calls may write. -/
def Foot (w : World) (db mb : Nat) (L L' : List (ByteArray × Fi)) : Prop := ∀ k, foot db mb L' k → foot db mb L k ∨ w.heap.size ≤ k
theorem Foot.refl (w : World) (db mb : Nat) (L : List (ByteArray × Fi)) : Foot w db mb L L := fun _ h => .inl h
theorem DK.put (h : DK base w db mb L D) {s : ByteArray} {f : Fi} (ok : DOk D') (hL : D'.L = putS D.L s f.t) (hb : BoxAt w' db 111 (boxD mb D')) (hm : MapIs w' mb (setM (mapM Fi.val L) s f.val)) (ho : OwnB base w' f)
    (hk : Kept (fun k => k = db ∨ k = mb ∨ (lookF L s).v.ownBlock = some k) w w') (hf : ∀ k, f.v.ownBlock = some k → (lookF L s).v.ownBlock = some k ∨ w.heap.size ≤ k) :
    DK base w' db mb (setM L s f) D' ∧ Kept (foot db mb L) w w' ∧ Foot w db mb L (setM L s f) := by
  rw [setM_map] at hm
  have hlk : ∀ k, (lookF L s).v.ownBlock = some k → ∃ p ∈ L, p.2.v.ownBlock = some k := fun k e => by
    cases hx : getM L s with
    | none => rw [lookF_none hx] at e; cases e
    | some f0 => rw [lookF_some hx] at e; exact ⟨(s, f0), getM_mem hx, e⟩
  have hnew : ∀ p ∈ L, p.1 ≠ s → ∀ k, f.v.ownBlock = some k → p.2.v.ownBlock ≠ some k := fun p hp hne k e x => by
    rcases hf k e with e1 | e1
    · exact h.other hp hne x e1
    · have := (h.lt (.inr (.inr ⟨p, hp, x⟩))).1
      omega
  refine ⟨⟨hb, hm, DK.ofGet (setM_pair h.pair s f) ok (fun t => ?_), fun p hp => ?_, fun p hp q hq hne k e => ?_, h.base, ok⟩, hk.mono (fun k _ e => ?_), fun k e => ?_⟩
  · rw [hL, getM_set, getM_put]
    by_cases e : s = t
    · rw [if_pos e, if_pos e]; rfl
    · rw [if_neg e, if_neg e, h.get]
  · rcases setM_mem' h.pair hp with rfl | ⟨hp, hne⟩
    · exact ho
    · refine (h.data p hp).kept hk (fun j e x => ?_)
      obtain ⟨n1, n2⟩ := h.noBox hp e
      rcases x with x | x | x
      · exact n1 x
      · exact n2 x
      · exact h.other hp hne e x
  · rcases setM_mem' h.pair hp with rfl | ⟨hp, hp'⟩
    · rcases setM_mem' h.pair hq with rfl | ⟨hq, hq'⟩
      · exact absurd rfl hne
      · exact hnew q hq hq' k e
    · rcases setM_mem' h.pair hq with rfl | ⟨hq, hq'⟩
      · exact fun x => hnew p hp hp' k x e
      · exact h.sep p hp q hq hne k e
  · rcases e with e | e | e
    · exact .inl e
    · exact .inr (.inl e)
    · exact .inr (.inr (hlk k e))
  · rcases e with e | e | ⟨p, hp, e⟩
    · exact .inl (.inl e)
    · exact .inl (.inr (.inl e))
    · rcases setM_mem' h.pair hp with rfl | ⟨hp, _⟩
      · rcases hf k e with e1 | e1
        · exact .inl (.inr (.inr (hlk k e1)))
        · exact .inr e1
      · exact .inl (.inr (.inr ⟨p, hp, e⟩))
theorem DK.del (h : DK base w db mb L D) {s : ByteArray} (ok : DOk D') (hL : D'.L = delM D.L s) (hb : BoxAt w' db 111 (boxD mb D')) (hm : MapIs w' mb (delM (mapM Fi.val L) s))
    (hk : Kept (fun k => k = db ∨ k = mb) w w') : DK base w' db mb (delM L s) D' ∧ Kept (foot db mb L) w w' ∧ Foot w db mb L (delM L s) := by
  rw [delM_map] at hm
  refine ⟨⟨hb, hm, DK.ofGet (delM_pair h.pair s) ok (fun t => ?_), fun p hp => ?_, fun p hp q hq hne k e => h.sep p (delM_mem hp).1 q (delM_mem hq).1 hne k e, h.base, ok⟩, hk.mono (fun k _ e => ?_), fun k e => ?_⟩
  · rw [hL, getM_del, getM_del]
    by_cases e : s = t
    · rw [if_pos e, if_pos e]; rfl
    · rw [if_neg e, if_neg e, h.get]
  · have hp' := (delM_mem hp).1
    exact (h.data p hp').kept hk (fun j e x => by
      obtain ⟨n1, n2⟩ := h.noBox hp' e
      rcases x with x | x
      · exact n1 x
      · exact n2 x)
  · rcases e with e | e
    · exact .inl e
    · exact .inr (.inl e)
  · rcases e with e | e | ⟨p, hp, e⟩
    · exact .inl (.inl e)
    · exact .inl (.inr (.inl e))
    · exact .inl (.inr (.inr ⟨p, (delM_mem hp).1, e⟩))
end
/-- What a call on a disk leaves. -/
def DTo (base : Nat) (w : World) (db mb : Nat) (L : List (ByteArray × Fi)) (r : DA × Int) (e : Ending) (w' : World) : Prop := ∃ L', e = .returned (.int .i64 r.2) ∧ DK base w' db mb L' r.1 ∧ Kept (foot db mb L) w w' ∧ Foot w db mb L L'
theorem BeganTo.to {base : Nat} {w : World} {db mb : Nat} {L : List (ByteArray × Fi)} {r : DA × Int} {e : Ending} {w' : World} (h : BeganTo base w db mb L r e w') : DTo base w db mb L r e w' :=
  ⟨L, h.1, h.2.1, h.2.2.mono (fun _ _ e => .inl e), Foot.refl _ _ _ _⟩
theorem DTo.behind {base : Nat} {w w1 : World} {db mb : Nat} {L : List (ByteArray × Fi)} {r : DA × Int} {e : Ending} {w' : World} (k : Kept (fun k => k = db) w w1) (h : DTo base w1 db mb L r e w') : DTo base w db mb L r e w' := by
  obtain ⟨L', h1, h2, h3, h4⟩ := h
  refine ⟨L', h1, h2, (k.mono (fun _ _ e => .inl e)).trans h3, fun j e => ?_⟩
  rcases h4 j e with x | x
  · exact .inl x
  · exact .inr (Nat.le_trans k.size x)
theorem behindD_ne {D : DA} {f : DA → DA × Int} (h : (beginD D).2 ≠ 0) : behindD D f = beginD D := by unfold behindD; rw [if_neg h]
theorem behindD_eq {D : DA} {f : DA → DA × Int} (h : (beginD D).2 = 0) : behindD D f = f (beginD D).1 := by unfold behindD; rw [if_pos h]
set_option maxRecDepth 100000 in
set_option maxHeartbeats 2000000 in
theorem dCreate_any (base db mb : Nat) (L : List (ByteArray × Fi)) (D : DA) (s : ByteArray) (hs : s.size ≤ maxLen) (w : World) (h : DK base w db mb L D) :
    Calls Tryd.prog 66 #[.pointer (some ⟨db, 0, none⟩), .string s] w (DTo base w db mb L (createD D s)) := by
  have HC := Lib.hid (dchange_any base db mb L D w h)
  obtain ⟨r, hr⟩ : ∃ r, r = beginD D := ⟨_, rfl⟩
  have HX : Hid ((r.2 ≠ 0 → createD D s = r) ∧ (r.2 = 0 → createD D s = createF s r.1)) := Lib.hid ⟨fun e => by rw [hr] at e ⊢; exact behindD_ne e, fun e => by rw [hr] at e ⊢; exact behindD_eq e⟩
  rw [← hr] at HC
  obtain ⟨D1, z⟩ := r
  have HS := Lib.hid hs
  have HN := Lib.hid (fun w => isName_any s w (by unfold maxLen at hs; omega))
  clear hr hs h
  by_cases hz : z = 0
  · have q0 : (z != 0) = false := bneF hz
    have HY := Lib.hid (HX.out.2 hz)
    subst hz
    cases hn : nameB s with
    | false =>
      have HZ := Lib.hid (show createF s D1 = (D1, 3) by unfold createF; rw [if_pos hn])
      rw [hn] at HN
      clear hn
      go_enter Tryd.func66, Tryd.ntmps66
      go_wp2_with fail
      refine HC.out.mono ?_
      rintro e w1 ⟨rfl, h1, hk1⟩
      have HD := Lib.hid (And.intro h1 hk1)
      clear h1 hk1
      go_wp2_with fail
      refine (HN.out _).mono ?_
      rintro e w2 ⟨rfl, rfl⟩
      go_wp2
      go_ret
      rw [HY.out, HZ.out]
      exact BeganTo.to ⟨rfl, HD.out.1, HD.out.2⟩
    | true =>
      rw [hn] at HN
      have HNB := Lib.hid hn
      clear hn
      cases hg : (getM D1.L s).isSome with
      | true =>
        have HZ := Lib.hid (show createF s D1 = (D1, 8) by unfold createF; rw [if_neg (by rw [HNB.out]; decide), if_pos hg])
        have HG := Lib.hid hg
        clear hg
        go_enter Tryd.func66, Tryd.ntmps66
        go_wp2_with fail
        refine HC.out.mono ?_
        rintro e w1 ⟨rfl, h1, hk1⟩
        have HD := Lib.hid (And.intro h1 hk1)
        have HH := Lib.hid (dhas_any base db mb L D1 s HS.out w1 h1)
        rw [HG.out] at HH
        clear h1 hk1
        go_wp2_with fail
        refine (HN.out _).mono ?_
        rintro e w2 ⟨rfl, rfl⟩
        go_wp2_with fail
        refine HH.out.mono ?_
        rintro e w2 ⟨rfl, k2⟩
        have HK2 := Lib.hid k2
        clear k2
        go_wp2
        go_ret
        rw [HY.out, HZ.out]
        exact BeganTo.to ⟨rfl, HD.out.1.kept HK2.out (fun _ _ x => x), HD.out.2.trans (HK2.out.mono (fun _ _ x => x.elim))⟩
      | false =>
        have HG := Lib.hid hg
        clear hg
        by_cases hm : 4096 ≤ D1.L.length
        · have HZ := Lib.hid (show createF s D1 = (D1, 6) by unfold createF; rw [if_neg (by rw [HNB.out]; decide), if_neg (by rw [HG.out]; decide), if_pos hm])
          have HM := Lib.hid hm
          clear hm
          go_enter Tryd.func66, Tryd.ntmps66
          go_wp2_with fail
          refine HC.out.mono ?_
          rintro e w1 ⟨rfl, h1, hk1⟩
          have HD := Lib.hid (And.intro h1 hk1)
          have HH := Lib.hid (dhas_any base db mb L D1 s HS.out w1 h1)
          rw [HG.out] at HH
          clear h1 hk1
          go_wp2_with fail
          refine (HN.out _).mono ?_
          rintro e w2 ⟨rfl, rfl⟩
          go_wp2_with fail
          refine HH.out.mono ?_
          rintro e w2 ⟨rfl, k2⟩
          have HD2 := Lib.hid (HD.out.1.kept k2 (fun _ _ x => x))
          have HK2 := Lib.hid (HD.out.2.trans (k2.mono (S' := fun k => k = db) (fun _ _ x => x.elim)))
          have c0 := HD2.out.c.1
          have hlen := HD2.out.map.runLen Tryd.underlying109
          obtain ⟨n, hn⟩ : ∃ n, n = (mapM Fi.val L).length := ⟨_, rfl⟩
          have q1 : (4096 : Int) ≤ (n : Int) := by have := HM.out; have := HD2.out.len; rw [hn]; unfold mapM; rw [List.length_map]; omega
          have q2 : decide (4096 ≤ n) = true := decide_eq_true (by omega)
          rw [← hn] at hlen
          clear k2 hn
          go_wp2
          go_ret
          rw [HY.out, HZ.out]
          exact BeganTo.to ⟨rfl, HD2.out, HK2.out⟩
        · have HZ := Lib.hid (show createF s D1 = ({ D1 with L := putS D1.L s ⟨[], 0⟩ }, 0) by unfold createF; rw [if_neg (by rw [HNB.out]; decide), if_neg (by rw [HG.out]; decide), if_neg hm])
          have HM := Lib.hid hm
          clear hm
          go_enter Tryd.func66, Tryd.ntmps66
          go_wp2_with fail
          refine HC.out.mono ?_
          rintro e w1 ⟨rfl, h1, hk1⟩
          have HD := Lib.hid (And.intro h1 hk1)
          have HH := Lib.hid (dhas_any base db mb L D1 s HS.out w1 h1)
          rw [HG.out] at HH
          clear h1 hk1
          go_wp2_with fail
          refine (HN.out _).mono ?_
          rintro e w2 ⟨rfl, rfl⟩
          go_wp2_with fail
          refine HH.out.mono ?_
          rintro e w2 ⟨rfl, k2⟩
          have HD2 := Lib.hid (HD.out.1.kept k2 (fun _ _ x => x))
          have HK2 := Lib.hid (HD.out.2.trans (k2.mono (S' := fun k => k = db) (fun _ _ x => x.elim)))
          have c0 := HD2.out.c.1
          have hlen := HD2.out.map.runLen Tryd.underlying109
          obtain ⟨n, hn⟩ : ∃ n, n = (mapM Fi.val L).length := ⟨_, rfl⟩
          have hn' : n = D1.L.length := by have := HD2.out.len; rw [hn]; unfold mapM; rw [List.length_map]; omega
          have q1 : ¬ (4096 : Int) ≤ (n : Int) := by have := HM.out; omega
          have q2 : decide (4096 ≤ n) = false := decide_eq_false (by have := HM.out; omega)
          obtain ⟨w3, hu, hm3, hk3⟩ := HD2.out.map.update Tryd.underlying9 Tryd.underlying109 HS.out nilFile.val (by have := HM.out; unfold maxLen; omega)
          have HP := Lib.hid (HD2.out.put (s := s) (f := nilFile) (D' := { D1 with L := putS D1.L s ⟨[], 0⟩ }) (by
              have := createF_ok (s := s) HD2.out.ok
              rw [HZ.out] at this
              exact this) rfl (by
              have hb := HD2.out.box.kept hk3 HD2.out.ne
              have e : usedL (putS D1.L s ⟨[], 0⟩) = usedL D1.L := by
                have := usedL_put HD2.out.ok.asc.pair s ⟨[], 0⟩
                have hg : getM D1.L s = none := by
                  have := HG.out
                  cases hx : getM D1.L s
                  · rfl
                  · rw [hx] at this; cases this
                rw [hg] at this
                simpa [szM] using this
              unfold boxD at hb ⊢
              simp only [e]
              exact hb) hm3 (.inl ⟨rfl, rfl, rfl⟩) (hk3.mono (fun k _ e => .inr (.inl e))) (fun k e => by cases e))
          rw [← hn] at hlen
          replace hu : (Instr.mapUpdate 109 (.map (some mb)) (.string s) (.agg #[.slice none 0 0, .int .i64 0])).run Tryd.prog w2 = .ok () w3 := hu
          clear k2 hn hn' hm3 hk3
          go_wp2
          go_ret
          rw [HY.out, HZ.out]
          exact DTo.behind HK2.out ⟨_, rfl, HP.out⟩
  · have q0 : (z != 0) = true := bneT hz
    have HY := Lib.hid (HX.out.1 hz)
    clear hz
    go_enter Tryd.func66, Tryd.ntmps66
    go_wp2_with fail
    refine HC.out.mono ?_
    rintro e w1 ⟨rfl, h1, hk1⟩
    have HD := Lib.hid (And.intro h1 hk1)
    clear h1 hk1
    go_wp2
    go_ret
    rw [HY.out]
    exact BeganTo.to ⟨rfl, HD.out.1, HD.out.2⟩
end Go.Proofs.YtficodklidaheaaDoor
/- Results of four cells, of a struct beside others. -/
namespace Go.Proofs.YtficodklidaheaaDoor
open Go.RowKit
attribute [local go_sem ↓] Go.wp_at_zero Go.wp_at_succ

theorem results_tmp4 {fn : Func} {t u v x : Tmp} (h : fn.results = #[.tmp t, .tmp u, .tmp v, .tmp x]) (tmps : Array Value) (P : Program) (w : World) :
    (results fn tmps).run P w = .ok (.tuple #[tmps.getD t undef, tmps.getD u undef, tmps.getD v undef, tmps.getD x undef]) w := by
  simp [results, h]
theorem results_ct {P : Program} {fn : Func} {p t : Tmp} {ty : TypeId} (h : fn.results = #[.cell p ty, .tmp t]) (tmps : Array Value) (w : World) (g : Nat) (t' : TypeId) (cs : Array Value) (fr : Nat × Nat) (d : TypeDesc)
    (hp : tmps.getD p undef = .pointer (some ⟨g, 0, none⟩)) (hg : w.heap[g]? = some (.cells cs t' fr))
    (hu : P.underlying ty = some d) (hd : (match d with | .struct _ | .array _ _ => true | _ => false) = true) (hi : (P.info? ty).map (·.size) = some cs.size) :
    (results fn tmps).run P w = .ok (.tuple #[.agg cs, tmps.getD t undef]) w := by
  have hp' : tmps[p]?.getD undef = .pointer (some ⟨g, 0, none⟩) := by simpa using hp
  simp [results, h, hp', asAddr, run_loadVar_row w g t' ty cs fr d hg hu hd hi]
theorem results_ctt {P : Program} {fn : Func} {p t u : Tmp} {ty : TypeId} (h : fn.results = #[.cell p ty, .tmp t, .tmp u]) (tmps : Array Value) (w : World) (g : Nat) (t' : TypeId) (cs : Array Value) (fr : Nat × Nat) (d : TypeDesc)
    (hp : tmps.getD p undef = .pointer (some ⟨g, 0, none⟩)) (hg : w.heap[g]? = some (.cells cs t' fr))
    (hu : P.underlying ty = some d) (hd : (match d with | .struct _ | .array _ _ => true | _ => false) = true) (hi : (P.info? ty).map (·.size) = some cs.size) :
    (results fn tmps).run P w = .ok (.tuple #[.agg cs, tmps.getD t undef, tmps.getD u undef]) w := by
  have hp' : tmps[p]?.getD undef = .pointer (some ⟨g, 0, none⟩) := by simpa using hp
  simp [results, h, hp', asAddr, run_loadVar_row w g t' ty cs fr d hg hu hd hi]

end Go.Proofs.YtficodklidaheaaDoor
