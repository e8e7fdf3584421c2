/- package hist: Fit, of any histogram. -/
import Derived.Test.YtbjpcddnjndjlaaH9
namespace Go.Proofs.Ytbjpcddnjndjlaa
open Go.RowKit
attribute [local go_sem ↓] Go.wp_at_zero Go.wp_at_succ

set_option maxHeartbeats 4000000 in
set_option maxRecDepth 100000 in
theorem histFit_any (h : HistV) (most : Int) (pv nv : Value) (w : World) (ha : HistAt w h pv nv) (hok : h.ok) (hp : h.pl.length ≤ 1000000) (hn : h.nl.length ≤ 1000000) :
    Calls Try.prog 24 #[histV h pv nv, .int .i64 most] w (fun e w' => ∃ R E, FitOf h most R E ∧ HistOut w R E e w') := by
  obtain ⟨⟨ao, c, rfl⟩, bo, d, rfl⟩ := ha.sl
  obtain ⟨w0, hw0⟩ : ∃ w0, w0 = (w.alloc (.cells #[.int .i64 h.sc, .int .u64 (h.ze : Int), .int .i64 h.po, .slice ao h.pl.length c, .int .i64 h.no, .slice bo h.nl.length d] 27)).alloc (.cells #[.int .i64 0, .int .u64 0, .int .i64 0, .slice none 0 0, .int .i64 0, .slice none 0 0] 27) := ⟨_, rfl⟩
  have k0 : Kept (fun _ => False) w w0 := by rw [hw0]; exact ((Kept.refl _ w).alloc _).alloc _
  have bx : HistBox w0 w.heap.size h (.slice ao h.pl.length c) (.slice bo h.nl.length d) := by
    rw [hw0]; exact ((Kept.refl (fun _ => False) _).alloc _).same (heap_alloc_new w _) (fun x => x)
  have rx : HistBox w0 (w.heap.size + 1) zeroH (.slice none 0 0) (.slice none 0 0) := by
    rw [hw0]
    have := heap_alloc_new (w.alloc (.cells #[.int .i64 h.sc, .int .u64 (h.ze : Int), .int .i64 h.po, .slice ao h.pl.length c, .int .i64 h.no, .slice bo h.nl.length d] 27)) (.cells #[.int .i64 0, .int .u64 0, .int .i64 0, .slice none 0 0, .int .i64 0, .slice none 0 0] 27)
    have e : (w.alloc (.cells #[.int .i64 h.sc, .int .u64 (h.ze : Int), .int .i64 h.po, .slice ao h.pl.length c, .int .i64 h.no, .slice bo h.nl.length d] 27)).heap.size = w.heap.size + 1 := by simp
    rw [e] at this
    exact this
  have HC := Lib.hid (histCheck_any h _ _ w0 (ha.on k0) hok hp hn)
  have HA := Lib.hid fun w' (k : Kept (fun _ => False) w0 w') => ha.on (k0.trans k)
  have HK0 := Lib.hid k0
  have HBX := Lib.hid bx
  have HRX := Lib.hid rx
  have HW0 := Lib.hid hw0
  obtain ⟨E, hE⟩ : ∃ E, E = h.err := ⟨_, rfl⟩
  by_cases hE0 : h.err = 0
  · obtain ⟨hsc, l3, l4, l5⟩ := err_light hE0
    have hp2 := side_range l3
    have hn2 := side_range l4
    have hC := HC.out
    rw [hE0] at hC
    refine histFit_ok h most ao bo c d w w0 HK0.out HW0.out HBX.out HRX.out hC
      (Lib.hid fun w' b k hb => (histWidth_any h.po h.pl b _ w' (HA.out _ k).p hp2.1 hp hb).mono fun e w2 ⟨h1, h2⟩ => ⟨h1, k.trans h2⟩)
      (Lib.hid fun w' b k hb => (histWidth_any h.no h.nl b _ w' (HA.out _ k).n hn2.1 hn hb).mono fun e w2 ⟨h1, h2⟩ => ⟨h1, k.trans h2⟩)
      (Lib.hid fun w' b k hb => ?_) hsc hE0
    have := histDown_any h b _ _ w' (HA.out _ k) hok hp hn (by unfold I64; omega)
    have e1 : downE h b = 0 := by unfold downE; rw [if_neg (by omega), if_neg (by omega)]
    have e2 : downR h b = downH h b := by unfold downR; rw [e1, if_pos rfl, Int.toNat_natCast]
    rwa [e1, e2] at this
  · have HF : Hid (FitOf h most zeroH E) := Lib.hid (.inl ⟨hE0, hE, rfl⟩)
    rw [← hE] at HC hE0
    have q : ((E : Int) != 0) = true := bneT (by omega)
    rw [hw0] at HC
    have HC := Lib.hid HC.out
    clear ha k0 bx rx hw0 hE
    obtain ⟨sc, ze, po, pl, no, nl⟩ := h
    unfold histV at HC ⊢
    go_enter Try.func24, Try.ntmps24
    go_wp2_with (go_at_call 16; refine HC.out.mono ?_; rintro e w1 ⟨rfl, k1⟩; rw [← HW0.out] at k1; have K1 := Lib.hid (HK0.out.trans k1); have rx1 := HRX.out.same k1 (fun x => x); have RX1 := Lib.hid rx1; obtain ⟨r0, r1, r2, r3, r4, r5⟩ := rx1.c; obtain ⟨f0, f1, f2, f3, f4, f5⟩ := rx1.f; clear k1 rx1)
    refine hist_end (h := zeroH) Try.results24 rfl rfl rfl (RX1.out.set zeroH (.slice none 0 0) (.slice none 0 0)) ?_
    exact ⟨zeroH, E, HF.out, zeroOut (K1.out.newer (set6_kept _ _ _ _ _ _ _ _) (fun i e => by omega))⟩
end Go.Proofs.Ytbjpcddnjndjlaa
