/- Layer 12: what a reader takes of bytes that are known. -/
import Derived.Test.YteflepcmblacaaaGreatDoorI2
namespace Go.Proofs.YteflepcmblacaaaGreatDoor
open Go.RowKit
attribute [local go_sem ↓] Go.wp_at_zero Go.wp_at_succ

/-- A reader without an error, and what it has yet to read. -/
def RL (W w : World) (p : Nat) (l rest : List Int) : Prop := ∃ t, RK W w p l t 0 ∧ l.drop t = rest
theorem RL.kept {W w w' : World} {p : Nat} {l rest : List Int} (h : RL W w p l rest) (k : Kept (fun _ => False) w w') : RL W w' p l rest := by
  obtain ⟨t, h, e⟩ := h
  exact ⟨t, h.kept k, e⟩
theorem RL.lt {W w : World} {p : Nat} {l rest : List Int} (h : RL W w p l rest) : p < w.heap.size := h.elim fun _ h => h.1.lt
theorem RL.base {W w : World} {p : Nat} {l rest : List Int} (h : RL W w p l rest) : W.heap.size ≤ p := h.elim fun _ h => h.1.base
theorem RL.box {W w : World} {p : Nat} {l rest : List Int} (h : RL W w p l rest) : ∃ cs, w.heap[p]? = some (.cells cs 96 (0, 0)) := h.elim fun _ h => h.1.box
theorem rdCount_any {W w : World} {p : Nat} {l rest : List Int} (v most : Int) (h : RL W w p l (numB v ++ rest)) (hl : l.length ≤ 100000000000) (h0 : 0 ≤ v) (h1 : v ≤ most) (hm : most ≤ 9223372036854775807) :
    Calls Tryz.prog 58 #[.pointer (some ⟨p, 0, none⟩), .int .i64 most] w fun e w' => e = .returned (.int .i64 v) ∧ RL W w' p l rest ∧ Kept (fun k => k = p) w w' := by
  obtain ⟨t, hr, e⟩ := h
  have hc := count_back l rest t v most h0 h1 (by omega) e
  refine (rkCount_any most hr hl (by omega) hm).mono ?_
  rintro e' w' ⟨rfl, h2, k2⟩
  rw [hc] at h2 ⊢
  exact ⟨rfl, ⟨_, h2, drop_more e⟩, k2⟩
theorem rdText_any {W w : World} {p : Nat} {l rest : List Int} (s : ByteArray) (most : Int) (h : RL W w p l (numB s.size ++ strB s ++ rest)) (hl : l.length ≤ 100000000000) (h1 : (s.size : Int) ≤ most) (hm : most ≤ 1000000) :
    Calls Tryz.prog 35 #[.pointer (some ⟨p, 0, none⟩), .int .i64 most] w fun e w' => e = .returned (.string s) ∧ RL W w' p l rest ∧ Kept (fun k => k = p) w w' := by
  obtain ⟨t, hr, e⟩ := h
  have hc := text_back2 l rest t s most h1 hm e hr.taken
  refine (rkText_any most hr hl (by omega) (by omega)).mono ?_
  rintro e' w' ⟨rfl, h2, k2⟩
  rw [hc] at h2 ⊢
  exact ⟨by rw [strOf_strB], ⟨_, h2, drop_more e⟩, k2⟩
theorem rdNum_any {W w : World} {p : Nat} {l rest : List Int} (v : Int) (h : RL W w p l (numB v ++ rest)) (hl : l.length ≤ 100000000000) (h0 : 0 ≤ v) (h1 : v ≤ 18446744073709551615) :
    Calls Tryz.prog 63 #[.pointer (some ⟨p, 0, none⟩)] w fun e w' => e = .returned (.int .u64 v) ∧ RL W w' p l rest ∧ Kept (fun k => k = p) w w' := by
  obtain ⟨t, hr, e⟩ := h
  have hc := num_back l rest t v h0 h1 e
  obtain ⟨v0, hr0, hk⟩ := hr
  refine (rnum_all W.heap.size p v0 l t 0 w hr0 hl).mono ?_
  rintro e' w' ⟨rfl, h2, k2⟩
  rw [hc] at h2 ⊢
  exact ⟨rfl, ⟨_, RK.to hr0 hk h2 k2, drop_more e⟩, k2⟩
theorem rdInt_any {W w : World} {p : Nat} {l rest : List Int} (z : Int) (h : RL W w p l (numB (zigI z) ++ rest)) (hl : l.length ≤ 100000000000) (h0 : -9223372036854775808 ≤ z) (h1 : z ≤ 9223372036854775807) :
    Calls Tryz.prog 60 #[.pointer (some ⟨p, 0, none⟩)] w fun e w' => e = .returned (.int .i64 z) ∧ RL W w' p l rest ∧ Kept (fun k => k = p) w w' := by
  obtain ⟨t, hr, e⟩ := h
  have hz := zigI_range z h0 h1
  have hc := num_back l rest t (zigI z) hz.1 hz.2 e
  obtain ⟨v0, hr0, hk⟩ := hr
  refine (rint_all W.heap.size p v0 l t 0 w hr0 hl).mono ?_
  rintro e' w' ⟨rfl, h2, k2⟩
  rw [hc] at h2 ⊢
  exact ⟨by dsimp only; rw [zag_zig], ⟨_, RK.to hr0 hk h2 k2, drop_more e⟩, k2⟩
theorem rdFix_any {W w : World} {p : Nat} {l rest : List Int} (v : Int) (h : RL W w p l (fixB v ++ rest)) (hl : l.length ≤ 100000000000) (h0 : 0 ≤ v) (h1 : v ≤ 18446744073709551615) :
    Calls Tryz.prog 61 #[.pointer (some ⟨p, 0, none⟩)] w fun e w' => e = .returned (.int .u64 v) ∧ RL W w' p l rest ∧ Kept (fun k => k = p) w w' := by
  obtain ⟨t, hr, e⟩ := h
  have hc := fix_back l rest t v h0 h1 e hr.taken
  obtain ⟨v0, hr0, hk⟩ := hr
  refine (rfix_all W.heap.size p v0 l t 0 w hr0 hl).mono ?_
  rintro e' w' ⟨rfl, h2, k2⟩
  rw [hc] at h2 ⊢
  refine ⟨rfl, ⟨_, RK.to hr0 hk h2 k2, ?_⟩, k2⟩
  have := drop_more e
  rwa [show (fixB v).length = 8 by unfold fixB; simp [fixK]] at this
theorem rdDone_any {W w : World} {p : Nat} {l : List Int} (h : RL W w p l []) (hl : l.length ≤ 100000000000) :
    Calls Tryz.prog 38 #[.pointer (some ⟨p, 0, none⟩)] w fun e w' => e = .returned (.int .i64 0) ∧ Kept (fun _ => False) w w' := by
  obtain ⟨t, hr, e⟩ := h
  have ht : t = l.length := by
    have h1 := hr.taken
    have h2 := congrArg List.length e
    rw [List.length_drop, List.length_nil] at h2
    omega
  refine (rkDone_any hr hl).mono ?_
  rintro e' w' ⟨rfl, k2⟩
  refine ⟨?_, k2⟩
  unfold doneF
  rw [if_neg (by simp), if_pos ht]
set_option maxRecDepth 100000 in
set_option maxHeartbeats 1000000 in
theorem rdNumber_any {W w : World} {p : Nat} {l rest : List Int} (v : Int) (h : RL W w p l (numB v ++ rest)) (hl : l.length ≤ 100000000000) (h0 : 0 ≤ v) (h1 : v ≤ 9007199254740992) :
    Calls Tryz.prog 36 #[.agg #[.pointer (some ⟨p, 0, none⟩)]] w fun e w' => e = .returned (.int .i64 v) ∧ RL W w' p l rest ∧ Kept (fun k => k = p) w w' := by
  obtain ⟨w1, hw1⟩ : ∃ w1, w1 = w.alloc (.cells #[.pointer (some ⟨p, 0, none⟩)] 70) := ⟨_, rfl⟩
  have k1 : Kept (fun _ => False) w w1 := by rw [hw1]; exact (Kept.refl _ _).alloc _
  have HC := Lib.hid (rdCount_any v 9007199254740992 (h.kept k1) hl h0 h1 (by omega))
  have HW1 := Lib.hid hw1
  have HK1 := Lib.hid k1
  clear h hw1 k1 h0 h1
  go_enter Tryz.func36, Tryz.ntmps36
  go_wp2_with fail
  rw [← HW1.out]
  refine HC.out.mono ?_
  rintro e w2 ⟨rfl, h2, k2⟩
  have HR := Lib.hid (And.intro h2 ((HK1.out.mono (fun _ _ x => x.elim)).trans k2))
  clear h2 k2
  go_wp2
  go_ret
  exact ⟨rfl, HR.out.1, HR.out.2⟩
set_option maxRecDepth 100000 in
set_option maxHeartbeats 1000000 in
theorem rdSigned_any {W w : World} {p : Nat} {l rest : List Int} (z : Int) (h : RL W w p l (numB (zigI z) ++ rest)) (hl : l.length ≤ 100000000000) (h0 : -4503599627370496 ≤ z) (h1 : z ≤ 4503599627370496) :
    Calls Tryz.prog 62 #[.agg #[.pointer (some ⟨p, 0, none⟩)]] w fun e w' => e = .returned (.int .i64 z) ∧ RL W w' p l rest ∧ Kept (fun k => k = p) w w' := by
  have hz : 0 ≤ zigI z ∧ zigI z ≤ 9007199254740992 := by unfold zigI; split <;> omega
  obtain ⟨w1, hw1⟩ : ∃ w1, w1 = w.alloc (.cells #[.pointer (some ⟨p, 0, none⟩)] 70) := ⟨_, rfl⟩
  have k1 : Kept (fun _ => False) w w1 := by rw [hw1]; exact (Kept.refl _ _).alloc _
  have HC := Lib.hid (rdNumber_any (zigI z) (h.kept k1) hl hz.1 hz.2)
  have HZ := Lib.hid (fun w' => zag_any (zigI z) hz.1 (by omega) w')
  rw [zag_zig] at HZ
  have wu : IntKind.u64.wrap (zigI z) = zigI z := wrap_u64_of _ hz.1 (by omega)
  obtain ⟨Z, hZ⟩ : ∃ Z, Z = zigI z := ⟨_, rfl⟩
  rw [← hZ] at HC HZ wu
  have HW1 := Lib.hid hw1
  have HK1 := Lib.hid k1
  clear h hw1 k1 h0 h1 hz hZ
  go_enter Tryz.func62, Tryz.ntmps62
  go_wp2_with fail
  rw [← HW1.out]
  refine HC.out.mono ?_
  rintro e w2 ⟨rfl, h2, k2⟩
  have HR := Lib.hid (And.intro h2 ((HK1.out.mono (fun _ _ x => x.elim)).trans k2))
  clear h2 k2
  go_wp2_with fail
  refine (HZ.out w2).mono ?_
  rintro e w3 ⟨rfl, rfl⟩
  go_wp2
  go_ret
  exact ⟨rfl, HR.out.1, HR.out.2⟩
end Go.Proofs.YteflepcmblacaaaGreatDoor
