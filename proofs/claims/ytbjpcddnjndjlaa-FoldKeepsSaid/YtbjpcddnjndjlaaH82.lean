/- package hist: Down. -/
import Derived.Test.YtbjpcddnjndjlaaH81
namespace Go.Proofs.Ytbjpcddnjndjlaa
open Go.RowKit
attribute [local go_sem ↓] Go.wp_at_zero Go.wp_at_succ

set_option maxHeartbeats 4000000 in
set_option maxRecDepth 100000 in
theorem histDown_any (h : HistV) (by_ : Int) (pv nv : Value) (w : World) (ha : HistAt w h pv nv) (hok : h.ok) (hp : h.pl.length ≤ 1000000) (hn : h.nl.length ≤ 1000000) (hby : I64 by_) :
    Calls Try.prog 22 #[histV h pv nv, .int .i64 by_] w (HistOut w (downR h by_) (downE h by_)) := by
  obtain ⟨⟨ao, c, rfl⟩, bo, d, rfl⟩ := ha.sl
  obtain ⟨w0, hw0⟩ : ∃ w0, w0 = (w.alloc (.cells #[.int .i64 h.sc, .int .u64 (h.ze : Int), .int .i64 h.po, .slice ao h.pl.length c, .int .i64 h.no, .slice bo h.nl.length d] 27)).alloc (.cells #[.int .i64 0, .int .u64 0, .int .i64 0, .slice none 0 0, .int .i64 0, .slice none 0 0] 27) := ⟨_, rfl⟩
  have k0 : Kept (fun _ => False) w w0 := by rw [hw0]; exact ((Kept.refl _ w).alloc _).alloc _
  have bx : HistBox w0 w.heap.size h (.slice ao h.pl.length c) (.slice bo h.nl.length d) := by
    rw [hw0]; exact ((Kept.refl (fun _ => False) _).alloc _).same (heap_alloc_new w _) (fun x => x)
  have rx : HistBox w0 (w.heap.size + 1) zeroH (.slice none 0 0) (.slice none 0 0) := by
    rw [hw0]
    have := heap_alloc_new (w.alloc (.cells #[.int .i64 h.sc, .int .u64 (h.ze : Int), .int .i64 h.po, .slice ao h.pl.length c, .int .i64 h.no, .slice bo h.nl.length d] 27)) (.cells #[.int .i64 0, .int .u64 0, .int .i64 0, .slice none 0 0, .int .i64 0, .slice none 0 0] 27)
    have e : (w.alloc (.cells #[.int .i64 h.sc, .int .u64 (h.ze : Int), .int .i64 h.po, .slice ao h.pl.length c, .int .i64 h.no, .slice bo h.nl.length d] 27)).heap.size = w.heap.size + 1 := by simp
    rw [e] at this
    exact this
  have HC := Lib.hid (histCheck_any h _ _ w0 (ha.on k0) hok hp hn)
  have HA := Lib.hid fun w' (k : Kept (fun _ => False) w0 w') => ha.on (k0.trans k)
  have HK0 := Lib.hid k0
  have HBX := Lib.hid bx
  have HRX := Lib.hid rx
  have HW0 := Lib.hid hw0
  have hdE : downE h by_ = if h.err ≠ 0 then h.err else if by_ < 0 ∨ h.sc + 10 < by_ then 1 else 0 := rfl
  have hLT := err_light (h := h)
  obtain ⟨E, hE⟩ : ∃ E, E = h.err := ⟨_, rfl⟩
  rw [← hE] at HC hdE hLT
  rw [hw0] at HC
  have HC := Lib.hid HC.out
  clear ha k0 bx rx hw0
  by_cases hE0 : E = 0
  · have q : ((E : Int) != 0) = false := bneF (by omega)
    obtain ⟨⟨l1, l2⟩, l3, l4, l5⟩ := hLT hE0
    rw [if_neg (by omega)] at hdE
    have hp2 := side_range l3
    have hn2 := side_range l4
    obtain ⟨t1, t2⟩ := total_parts l5
    have sc1 : IntKind.i64.wrap (h.sc - -10) = h.sc + 10 := by rw [IntWalk.i64_in _ ⟨by omega, by omega⟩]; omega
    have sc2 : h.sc - -10 = h.sc + 10 := by omega
    have sc3 : IntKind.i64.wrap (h.sc + 10) = h.sc + 10 := IntWalk.i64_in _ ⟨by omega, by omega⟩
    have hcase : by_ < 0 ∨ (¬ by_ < 0 ∧ h.sc + 10 < by_) ∨ (¬ by_ < 0 ∧ ¬ h.sc + 10 < by_) := by omega
    rcases hcase with b1 | ⟨b1, b2⟩ | ⟨b1, b2⟩
    · have hd : downE h by_ = 1 := by rw [hdE, if_pos (.inl b1)]
      have hr : downR h by_ = zeroH := by unfold downR; rw [hd, if_neg (by omega)]
      rw [hd, hr]
      clear hE hd hr hdE hLT hE0
      obtain ⟨sc, ze, po, pl, no, nl⟩ := h
      unfold histV at HC ⊢
      go_enter Try.func22, Try.ntmps22
      go_wp2_with (go_at_call 16; refine HC.out.mono ?_; rintro e w1 ⟨rfl, k1⟩; rw [← HW0.out] at k1; have K1 := Lib.hid (HK0.out.trans k1); have rx1 := HRX.out.same k1 (fun x => x); have RX1 := Lib.hid rx1; obtain ⟨r0, r1, r2, r3, r4, r5⟩ := rx1.c; obtain ⟨f0, f1, f2, f3, f4, f5⟩ := rx1.f; clear k1 rx1)
      refine hist_end (h := zeroH) Try.results22 rfl rfl rfl (RX1.out.set zeroH (.slice none 0 0) (.slice none 0 0)) ?_
      exact zeroOut (E := 1) (K1.out.newer (set6_kept _ _ _ _ _ _ _ _) (fun i e => by omega))
    · have hd : downE h by_ = 1 := by rw [hdE, if_pos (.inr b2)]
      have hr : downR h by_ = zeroH := by unfold downR; rw [hd, if_neg (by omega)]
      rw [hd, hr]
      clear hE hd hr hdE hLT hE0
      obtain ⟨sc, ze, po, pl, no, nl⟩ := h
      unfold histV at HC ⊢
      simp only at b2 sc1 sc2 sc3
      go_enter Try.func22, Try.ntmps22
      go_wp2_with (go_at_call 16; refine HC.out.mono ?_; rintro e w1 ⟨rfl, k1⟩; rw [← HW0.out] at k1; have K1 := Lib.hid (HK0.out.trans k1); obtain ⟨c0, _⟩ := (HBX.out.same k1 (fun x => x)).c; have rx1 := HRX.out.same k1 (fun x => x); have RX1 := Lib.hid rx1; obtain ⟨r0, r1, r2, r3, r4, r5⟩ := rx1.c; obtain ⟨f0, f1, f2, f3, f4, f5⟩ := rx1.f; clear k1 rx1)
      refine hist_end (h := zeroH) Try.results22 rfl rfl rfl (RX1.out.set zeroH (.slice none 0 0) (.slice none 0 0)) ?_
      exact zeroOut (E := 1) (K1.out.newer (set6_kept _ _ _ _ _ _ _ _) (fun i e => by omega))
    · have hd : downE h by_ = 0 := by rw [hdE, if_neg (by omega)]
      obtain ⟨b, rfl⟩ : ∃ b : Nat, by_ = b := ⟨by_.toNat, by omega⟩
      have hr : downR h b = downH h b := by unfold downR; rw [hd, if_pos rfl, Int.toNat_natCast]
      rw [hd, hr]
      have HD1 := Lib.hid fun w' (k : Kept (fun _ => False) w0 w') => histDownSide_any h.po h.pl b _ w' (HA.out _ k).p hp2.1 hp (by omega) t1
      have HD2 := Lib.hid fun w' (k : Kept (fun _ => False) w0 w') => histDownSide_any h.no h.nl b _ w' (HA.out _ k).n hn2.1 hn (by omega) t2
      have hC := HC.out
      rw [← HW0.out, hE0] at hC
      obtain ⟨sc, ze, po, pl, no, nl⟩ := h
      exact histDown_ok sc ze po pl no nl b ao bo c d w w0 HK0.out HW0.out HBX.out HRX.out hC HD1 HD2 (by simp only at b2; omega) ⟨by simp only at l1; omega, by simp only at l2; omega⟩ _ rfl
  · have q : ((E : Int) != 0) = true := bneT (by omega)
    have hd : downE h by_ = E := by rw [hdE, if_pos hE0]
    have hr : downR h by_ = zeroH := by unfold downR; rw [hd, if_neg hE0]
    rw [hd, hr]
    clear hE hd hr hdE hLT hE0
    obtain ⟨sc, ze, po, pl, no, nl⟩ := h
    unfold histV at HC ⊢
    go_enter Try.func22, Try.ntmps22
    go_wp2_with (go_at_call 16; refine HC.out.mono ?_; rintro e w1 ⟨rfl, k1⟩; rw [← HW0.out] at k1; have K1 := Lib.hid (HK0.out.trans k1); have rx1 := HRX.out.same k1 (fun x => x); have RX1 := Lib.hid rx1; obtain ⟨r0, r1, r2, r3, r4, r5⟩ := rx1.c; obtain ⟨f0, f1, f2, f3, f4, f5⟩ := rx1.f; clear k1 rx1)
    refine hist_end (h := zeroH) Try.results22 rfl rfl rfl (RX1.out.set zeroH (.slice none 0 0) (.slice none 0 0)) ?_
    exact zeroOut (K1.out.newer (set6_kept _ _ _ _ _ _ _ _) (fun i e => by omega))
end Go.Proofs.Ytbjpcddnjndjlaa
