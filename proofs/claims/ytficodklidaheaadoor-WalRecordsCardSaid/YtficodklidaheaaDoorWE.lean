/- Layer 19: Append. -/
import Derived.Test.YtficodklidaheaaDoorWD
import Derived.Test.YtficodklidaheaaDoorS8
namespace Go.Proofs.YtficodklidaheaaDoor
open Go.RowKit
attribute [local go_sem ↓] Go.wp_at_zero Go.wp_at_succ

theorem LogAt.kept {S : Nat → Prop} {w w' : World} {lb db : Nat} {s : ByteArray} {n size : Int} (h : LogAt w lb db s n size) (k : Kept S w w') (hn : ¬ S lb) : LogAt w' lb db s n size := BoxAt.kept h k hn
/-- A log's box is none of the disk's blocks. -/
theorem LogAt.apart {base : Nat} {w : World} {db mb lb : Nat} {L : List (ByteArray × Fi)} {D : DA} {s : ByteArray} {n size : Int} (hl : LogAt w lb db s n size) (h : DK base w db mb L D) : ¬ foot db mb L lb := by
  intro f
  rcases f with e | e | ⟨p, hp, e⟩
  · subst e
    have h1 := h.box
    unfold LogAt at hl
    unfold BoxAt at hl h1
    rw [h1] at hl
    injection hl with hl
    simp at hl
  · subst e
    exact h.map.notCells hl rfl
  · obtain ⟨cur, hc, _⟩ := (h.data p hp).block e
    unfold LogAt BoxAt at hl
    rw [hc] at hl
    injection hl with hl
    simp at hl
/-- What a log's Append leaves. -/
def LogTo (base : Nat) (w : World) (db mb lb : Nat) (L : List (ByteArray × Fi)) (s : ByteArray) (n size : Int) (k : Nat) (r : DA × Int) (e : Ending) (w' : World) : Prop :=
  ∃ L', e = .returned (.int .i64 r.2) ∧ DK base w' db mb L' r.1 ∧ Kept (fun j => j = lb ∨ foot db mb L j) w w' ∧ Foot w db mb L L' ∧ (r.2 = 0 → LogAt w' lb db s (n + 1) (size + k)) ∧ (r.2 ≠ 0 → LogAt w' lb db s n size)
set_option maxRecDepth 100000 in
set_option maxHeartbeats 4000000 in
theorem wAppend_any (base db mb lb : Nat) (L : List (ByteArray × Fi)) (D : DA) (s : ByteArray) (hs : s.size ≤ maxLen) (n size : Int) (hn : 0 ≤ n ∧ n ≤ 1000000000) (hsz : 0 ≤ size ∧ size ≤ 1000000000) (v : Value) (l : List Nat) (hl : l.length ≤ 65536) (w : World) (h : DK base w db mb L D) (hlog : LogAt w lb db s n size) (HB : Row8 w v l) (HN : Nibs w) :
    Calls Tryd.prog 31 #[.pointer (some ⟨lb, 0, none⟩), v] w (LogTo base w db mb lb L s n size (9 + l.length) (appendD D s (frameL l))) := by
  have HW := Lib.hid (wrap_any v l hl w HB HN)
  have HLT := Lib.hid (frameL_lt l HB.lt)
  have HH := Lib.hid (And.intro h hlog)
  obtain ⟨a0, c0, hv⟩ : ∃ a0 c0, v = .slice a0 l.length c0 := by obtain ⟨a0, c0, e, _⟩ := HB; exact ⟨a0, c0, e⟩
  have HLN : Hid ((frameL l).length = 9 + l.length ∧ 9 + l.length ≤ 100000) := Lib.hid ⟨frameL_len l, by omega⟩
  obtain ⟨fl, hfl⟩ : ∃ fl, fl = 9 + l.length := ⟨_, rfl⟩
  rw [← hfl] at HLN ⊢
  have HFL := Lib.hid hfl
  obtain ⟨m, hm⟩ : ∃ m, m = l.length := ⟨_, rfl⟩
  rw [← hm] at hv
  subst hv
  obtain ⟨F, hF⟩ : ∃ F, F = frameL l := ⟨_, rfl⟩
  rw [← hF] at HLT HLN ⊢
  have HFF := Lib.hid hF
  obtain ⟨r, hr⟩ : ∃ r, r = appendD D s F := ⟨_, rfl⟩
  rw [← hr]
  have HR := Lib.hid hr
  have wn : IntKind.i64.wrap (n + 1) = n + 1 := by rw [IntWalk.i64_in _ ⟨by omega, by omega⟩]
  have wn2 : wrap64 (n + 1) = n + 1 := by unfold wrap64; omega
  have ws : IntKind.i64.wrap (size + (fl : Int)) = size + (fl : Int) := by rw [IntWalk.i64_in _ ⟨by omega, by omega⟩]
  have ws2 : wrap64 (size + (fl : Int)) = size + (fl : Int) := by unfold wrap64; omega
  clear h hlog HB HN hl hfl hm hn hsz hF hr
  go_enter Tryd.func31, Tryd.ntmps31
  go_wp2_with fail
  refine HW.out.mono ?_
  rintro e w1 hw
  obtain ⟨fv, rfl, hown, hk1⟩ := hw
  obtain ⟨fa, fc, rfl⟩ := ownsRow_slice hown
  rw [← HFL.out] at hown ⊢
  rw [← HFF.out] at hown
  have hat : SlAt w1 (.slice fa fl fc) (byV F) := SlAt.ofOwn hown
  have hne : ∀ j, (Value.slice fa fl fc).ownBlock = some j → j ≠ db := fun j e x => by
    have h1 := ownsRow_lt hown e
    have h2 := (HH.out.1.lt (k := db) (.inl rfl)).1
    omega
  have k2 : Kept (fun _ => False) w1 w1.drew := (Kept.refl _ _).drew
  have HD := Lib.hid ((dAppend_any base db mb L D s hs fa fl fc F HLN.out.1 HLT.out (by have := HLN.out; omega) w1.drew (HH.out.1.kept (hk1.trans k2) (fun _ _ x => x)) (hat.kept k2 (fun _ _ x => x)) (fun _ => hne)).mono (fun e w' => DTo.pre (hk1.trans k2)))
  have HL1 := Lib.hid (HH.out.2.kept (hk1.trans k2) (fun x => x))
  have c0 := HL1.out.cell (i := 0) (u := .pointer (some ⟨db, 0, none⟩)) rfl
  have c1 := HL1.out.cell (i := 1) (u := .string s) rfl
  rw [← HR.out] at HD
  have HAP := Lib.hid (HH.out.2.apart HH.out.1)
  have HKK := Lib.hid (hk1.trans k2)
  clear hown hk1 hat hne k2
  go_wp2
  go_region_with (go_at_call 69; refine HD.out.mono ?_; rintro e w4 ⟨L', rfl, h4, k4, f4⟩; have HL4 := Lib.hid (HH.out.2.kept k4 HAP.out); have H4 := Lib.hid (And.intro h4 (And.intro k4 f4)); clear h4 k4 f4)
  all_goals (
    obtain ⟨z, hz⟩ : ∃ z : Int, z = r.2 := ⟨_, rfl⟩
    rw [← hz]
    by_cases h0 : z = 0
    · have d2 := HL4.out.cell (i := 2) (u := .int .i64 n) rfl
      have d3 := HL4.out.cell (i := 3) (u := .int .i64 size) rfl
      have f2 := BoxAt.fz HL4.out 2
      have f3 := BoxAt.fz HL4.out 3
      have HX := Lib.hid (show LogTo base w db mb lb L s n size fl r (.returned (.int .i64 0)) ((w4.setCell ⟨lb, 2, none⟩ (.int .i64 (n + 1))).setCell ⟨lb, 3, none⟩ (.int .i64 (size + (fl : Int)))) from by
        have k5 := (kept_set w4 lb 2 (.int .i64 (n + 1))).trans (kept_set _ lb 3 (.int .i64 (size + (fl : Int))))
        have e0 : r.2 = 0 := by rw [← hz]; exact h0
        refine ⟨L', by rw [e0], H4.out.1.kept k5 (fun j f e => ?_), (H4.out.2.1.mono (fun _ _ e => .inr e)).trans (k5.mono (fun _ _ e => .inl e)), H4.out.2.2, fun _ => ?_, fun x => absurd e0 x⟩
        · rw [e] at f
          rcases H4.out.2.2 _ f with x | x
          · exact HAP.out x
          · have := BoxAt.lt HH.out.2; omega
        · exact ((BoxAt.set HL4.out 2 (.int .i64 (n + 1))).set 3 (.int .i64 (size + (fl : Int)))))
      subst h0
      clear hz
      go_wp2
      go_ret
      exact HX.out
    · have q0 : (z != 0) = true := by simp [bne, beq_eq_false_iff_ne.2 h0]
      have HX := Lib.hid (show LogTo base w db mb lb L s n size fl r (.returned (.int .i64 z)) w4 from ⟨L', by rw [hz], H4.out.1, H4.out.2.1.mono (fun _ _ e => .inr e), H4.out.2.2, fun x => absurd (hz.trans x) h0, fun _ => HL4.out⟩)
      clear h0 hz
      go_wp2
      go_ret
      exact HX.out)
end Go.Proofs.YtficodklidaheaaDoor
