/- Layer 8: the walk of HistChecks. -/
import Derived.Test.YtbjpcddnjndjlaaK0
namespace Go.Proofs.Ytbjpcddnjndjlaa
open Go.RowKit
attribute [local go_sem ↓] Go.wp_at_zero Go.wp_at_succ

/-- A histogram that came in. -/
structure HistIn (W : World) (h : HistV) (pv nv : Value) : Prop where
  at_ : HistAt W h pv nv
  ok : h.ok
  cp : ∀ a n c, pv = .slice a n c → n ≤ c
  cn : ∀ a n c, nv = .slice a n c → n ≤ c
theorem hist_boxed (W : World) (h : HistV) (pv nv : Value) : HistBox (W.alloc (.cells #[.int .i64 h.sc, .int .u64 (h.ze : Int), .int .i64 h.po, pv, .int .i64 h.no, nv] 27)) W.heap.size h pv nv := heap_alloc_new W _

set_option maxHeartbeats 4000000 in
set_option maxRecDepth 100000 in
theorem histChecks_walk (h : HistV) (pv nv : Value) (W : World) (hi : HistIn W h pv nv) :
    Calls Try.prog 3 #[histV h pv nv] W fun e w' => e = .returned (.bool true) ∧ Kept (fun _ => False) W w' := by
  have ha := hi.at_
  have hok := hi.ok
  obtain ⟨⟨ao, c, rfl⟩, bo, d, rfl⟩ := ha.sl
  obtain ⟨w0, hw0⟩ : ∃ w0, w0 = W.alloc (.cells #[.int .i64 h.sc, .int .u64 (h.ze : Int), .int .i64 h.po, .slice ao h.pl.length c, .int .i64 h.no, .slice bo h.nl.length d] 27) := ⟨_, rfl⟩
  have HBX : Hid (HistBox w0 W.heap.size h (.slice ao h.pl.length c) (.slice bo h.nl.length d)) := Lib.hid (by rw [hw0]; exact hist_boxed W h _ _)
  have HK0 : Hid (Kept (fun _ => False) W w0) := Lib.hid (by rw [hw0]; exact (Kept.refl _ _).alloc _)
  have HLT := Lib.hid fun w' (k : Kept (fun _ => False) w0 w') => refLight_any h _ _ w' (ha.on (HK0.out.trans k))
  by_cases hlight : h.pl.length ≤ 300 ∧ h.nl.length ≤ 300
  · rw [decide_eq_true hlight] at HLT
    have HT1 := Lib.hid fun w' (k : Kept (fun _ => False) w0 w') => histTotal_any h _ _ w' (ha.on (HK0.out.trans k)) hok.ze (by omega) (by omega) hok.pl hok.nl
    have HT2 := Lib.hid fun w' (k : Kept (fun _ => False) w0 w') => refTotal_any h _ _ w' (ha.on (HK0.out.trans k)) hok.ze (by omega) (by omega) hok.pl hok.nl
    have HC1 := Lib.hid fun w' (k : Kept (fun _ => False) w0 w') => histCheck_any h _ _ w' (ha.on (HK0.out.trans k)) hok (by omega) (by omega)
    have HC2 := Lib.hid fun w' (k : Kept (fun _ => False) w0 w') => refCheck_any h _ _ w' (ha.on (HK0.out.trans k)) hok (by omega) (by omega)
    unfold totV at HT1 HT2
    obtain ⟨T, hT⟩ : ∃ T : Nat, T = if h.total < 18446744073709551616 then h.total else 0 := ⟨_, rfl⟩
    obtain ⟨B, hB⟩ : ∃ B : Bool, B = decide (h.total < 18446744073709551616) := ⟨_, rfl⟩
    obtain ⟨E, hE⟩ : ∃ E, E = h.err := ⟨_, rfl⟩
    rw [← hT, ← hB] at HT1 HT2
    rw [← hE] at HC1 HC2
    clear hT hB hE ha hok hlight hi
    obtain ⟨sc, ze, po, pl, no, nl⟩ := h
    unfold histV at HLT HT1 HT2 HC1 HC2 ⊢
    simp only at HLT HT1 HT2 HC1 HC2 hw0 ⊢
    have q1 : ((E : Int) == (E : Int)) = true := beqT rfl
    have q2 : ((T : Int) == (T : Int)) = true := beqT rfl
    have q3 : (B == B) = true := by simp
    go_enter Try.func3, Try.ntmps3
    go_wp2_with (first
      | (go_at_call 12; rw [← hw0]; clear hw0; refine (awake8 w0).mono ?_; rintro e w1 ⟨rfl, k1⟩; have HK1 := Lib.hid k1; obtain ⟨c0, c1, c2, c3, c4, c5⟩ := (HBX.out.same HK1.out (fun x => x)).c; clear k1)
      | (go_at_call 13; refine (HLT.out w1 HK1.out).mono ?_; rintro e w2 ⟨rfl, k2⟩; have HK2 := Lib.hid (HK1.out.trans k2); obtain ⟨c0, c1, c2, c3, c4, c5⟩ := (HBX.out.same HK2.out (fun x => x)).c; clear k2)
      | (go_at_call 14; refine (HT1.out w2 HK2.out).mono ?_; rintro e w3 ⟨rfl, k3⟩; have HK3 := Lib.hid (HK2.out.trans k3); obtain ⟨c0, c1, c2, c3, c4, c5⟩ := (HBX.out.same HK3.out (fun x => x)).c; clear k3)
      | (go_at_call 15; refine (HT2.out w3 HK3.out).mono ?_; rintro e w4 ⟨rfl, k4⟩; have HK4 := Lib.hid (HK3.out.trans k4); obtain ⟨c0, c1, c2, c3, c4, c5⟩ := (HBX.out.same HK4.out (fun x => x)).c; clear k4)
      | fail)
    have HKD := Lib.hid (show Kept (fun _ => False) w0 w4.drew from HK4.out.drew)
    have HSD := Lib.hid (HBX.out.same HKD.out (fun x => x)).c
    go_region_held3 (fun w' => w'.cell? ⟨W.heap.size, 0, none⟩ = some (.int .i64 sc) ∧ w'.cell? ⟨W.heap.size, 1, none⟩ = some (.int .u64 (ze : Int)) ∧ w'.cell? ⟨W.heap.size, 2, none⟩ = some (.int .i64 po) ∧ w'.cell? ⟨W.heap.size, 3, none⟩ = some (.slice ao pl.length c) ∧ w'.cell? ⟨W.heap.size, 4, none⟩ = some (.int .i64 no) ∧ w'.cell? ⟨W.heap.size, 5, none⟩ = some (.slice bo nl.length d)) (first | (with_reducible exact HSD.out) | (with_reducible exact HS5.out) | (with_reducible exact HS6.out))
      (first
        | (go_at_call 16; refine (HC1.out w4.drew HKD.out).mono ?_; rintro e w5 ⟨rfl, k5⟩; have HK5 := Lib.hid (HKD.out.trans k5); have HS5 := Lib.hid (HBX.out.same HK5.out (fun x => x)).c; clear k5)
        | (go_at_call 17; refine (HC2.out w5 HK5.out).mono ?_; rintro e w6 ⟨rfl, k6⟩; have HK6 := Lib.hid (HK5.out.trans k6); have HS6 := Lib.hid (HBX.out.same HK6.out (fun x => x)).c; clear k6)
        | fail)
    go_wp2
    go_ret
    exact ⟨rfl, HK0.out.trans HK6.out⟩
  · rw [decide_eq_false hlight] at HLT
    clear ha hok hlight hi
    obtain ⟨sc, ze, po, pl, no, nl⟩ := h
    unfold histV at HLT ⊢
    simp only at HLT hw0 ⊢
    go_enter Try.func3, Try.ntmps3
    go_wp2_with (first
      | (go_at_call 12; rw [← hw0]; clear hw0; refine (awake8 w0).mono ?_; rintro e w1 ⟨rfl, k1⟩; have HK1 := Lib.hid k1; obtain ⟨c0, c1, c2, c3, c4, c5⟩ := (HBX.out.same HK1.out (fun x => x)).c; clear k1)
      | (go_at_call 13; refine (HLT.out w1 HK1.out).mono ?_; rintro e w2 ⟨rfl, k2⟩; have HK2 := Lib.hid (HK1.out.trans k2); clear k2)
      | fail)
    go_ret
    exact ⟨rfl, HK0.out.trans HK2.out⟩
end Go.Proofs.Ytbjpcddnjndjlaa
