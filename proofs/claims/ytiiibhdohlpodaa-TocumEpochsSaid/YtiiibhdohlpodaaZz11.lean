/- Texts put together: what the theorem stands on. -/
import Derived.Test.YtiiibhdohlpodaaZz3
import Derived.Test.YtiiibhdohlpodaaZz4
import Derived.Test.YtiiibhdohlpodaaZz10
import Derived.WalkKit
import Derived.WalkLawsBesides
import Derived.WalkSpells
import Derived.Deep.AppendSrc
import Derived.Deep.AppendLies
import Derived.Laws.FloatArith
import Derived.Lib.Hide
import Derived.Test.YtiiibhdohlpodaaRows
import Derived.Outline
import Derived.Deep.RegionWith
import Derived.Laws.ComplexArith
import Derived.LoopTactic
import Derived.Deep.DrawnRows
import Derived.Great.BuildSlice

namespace Go.Proofs.Ytiiibhdohlpodaa
open Go.RowKit
theorem toBits_run (b : Nat) (w : World) : (callFunc 114 #[.float .f64 b]).run Try.prog w = .ok (.value (.int .u64 b)) w := by kernel_rfl
set_option maxHeartbeats 400000 in
theorem odd_any (a : Int) (h0 : 0 ≤ a) (h1 : a ≤ 18446744073709551615) (w : World) :
    Calls Try.prog 121 #[.int .u64 a] w fun e w' => e = .returned (.bool (oddI a)) ∧ w = w' := by
  go_enter Try.func121, Try.ntmps121
  go_wp2
  go_ret
  exact ⟨ret_bool (odd_bits a h0 h1), rfl⟩
set_option maxHeartbeats 400000 in
theorem canon_any (a : Int) (h0 : 0 ≤ a) (h1 : a ≤ 18446744073709551615) (w : World) :
    Calls Try.prog 113 #[.int .u64 a] w fun e w' => e = .returned (.int .u64 (canonI a)) ∧ w = w' := by
  by_cases h : oddI a = true
  · have HC : Hid (canonI a = 9221120237041090561) := if_pos h
    go_enter Try.func113, Try.ntmps113
    go_wp2_with (go_at_call 121; refine (odd_any a h0 h1 _).mono ?_; rintro e w' ⟨rfl, rfl⟩)
    go_ret
    exact ⟨ret_int HC.out.symm, rfl⟩
  · have HC : Hid (canonI a = a) := if_neg h
    have h' : oddI a = false := by simpa using h
    clear h
    go_enter Try.func113, Try.ntmps113
    go_wp2_with (go_at_call 121; refine (odd_any a h0 h1 _).mono ?_; rintro e w' ⟨rfl, rfl⟩)
    go_ret
    exact ⟨ret_int HC.out.symm, rfl⟩
set_option maxHeartbeats 400000 in
theorem told_any (b : Nat) (h1 : (b : Int) ≤ 18446744073709551615) (w : World) :
    Calls Try.prog 94 #[.float .f64 b] w fun e w' => e = .returned (.int .u64 (canonI b)) ∧ w = w' := by
  have hf := toBits_run
  go_enter Try.func94, Try.ntmps94
  go_wp2_with (go_at_call 113; refine (canon_any b (by omega) h1 _).mono ?_; rintro e w' ⟨rfl, rfl⟩)
  go_ret
  exact ⟨rfl, rfl⟩
theorem bits_lt {op : BinOp} {x y r : Nat} (h : floatBits op .f64 x y = some r) : (r : Int) ≤ 18446744073709551615 := by
  have := floatBits_wf h
  simp [Lit.wf] at this
  omega
end Go.Proofs.Ytiiibhdohlpodaa
namespace Go.Proofs.Ytiiibhdohlpodaa
section
variable {P : Program} (w : World)
theorem run_carith_any (x y : Nat) : ∃ r q, (Op.Complex.arith .add .f64 x y).run P w = .ok r (w.drewN q) ∧ canonI (r : Int) = addI x y ∧ (r : Int) ≤ 18446744073709551615 := by
  cases h : floatBits .add .f64 x y with
  | some r => exact ⟨r, 0, run_carith w h, by unfold addI; rw [Int.toNat_natCast, Int.toNat_natCast, h], bits_lt h⟩
  | none =>
    refine ⟨nanOf w x y, 1, ?_, ?_, (nanOf_odd w x y).2⟩
    · unfold floatBits at h
      simp [Op.Complex.arith, Op.floatArith, h, Question.forced, nanOf]
      rfl
    · unfold addI
      rw [Int.toNat_natCast, Int.toNat_natCast, h]
      exact if_pos (nanOf_odd w x y).1
theorem run_cadd (t : TypeId) (a b c d : Nat) : ∃ re im q, (binOp .add t (.complex .f64 a b) (.complex .f64 c d)).run P w = .ok (.complex .f64 re im) (w.drewN q) ∧ canonI (re : Int) = addI a c ∧ canonI (im : Int) = addI b d ∧ (re : Int) ≤ 18446744073709551615 ∧ (im : Int) ≤ 18446744073709551615 := by
  obtain ⟨re, q, h1, h2, h3⟩ := run_carith_any (P := P) w a c
  obtain ⟨im, r, g1, g2, g3⟩ := run_carith_any (P := P) (w.drewN q) b d
  refine ⟨re, im, q + r, ?_, h2, g2, h3, g3⟩
  simp [binOp, Op.complexOp, h1, g1]
end
end Go.Proofs.Ytiiibhdohlpodaa
namespace Go.Proofs.Ytiiibhdohlpodaa
open Go.RowKit
attribute [local go_sem ↓] Go.wp_at_zero Go.wp_at_succ
set_option maxHeartbeats 400000 in
theorem phasor_any (a b : Int) (w : World) :
    Calls Try.prog 93 #[.int .u64 a, .int .u64 b] w fun e w' => e = .returned (.complex .f64 a.toNat b.toNat) ∧ w = w' := by
  go_enter Try.func93, Try.ntmps93
  go_wp2_with (go_at_call 68; refine (float_any _ _).mono ?_; rintro e w' ⟨rfl, rfl⟩)
  go_ret
  exact ⟨rfl, rfl⟩
set_option maxHeartbeats 1000000 in
theorem addPhasor_any (a b c d : Int) (w : World) :
    Calls Try.prog 71 #[.int .u64 a, .int .u64 b, .int .u64 c, .int .u64 d] w fun e w' => Drawn w w' (e = .returned (.tuple #[.int .u64 (addI a c), .int .u64 (addI b d)])) := by
  obtain ⟨re, im, q, hrun, h1, h2, h3, h4⟩ := run_cadd (P := Try.prog) w 118 a.toNat b.toNat c.toNat d.toNat
  have e1 : addI a c = addI ((a.toNat : Nat) : Int) ((c.toNat : Nat) : Int) := by unfold addI; rw [Int.toNat_natCast, Int.toNat_natCast]
  have e2 : addI b d = addI ((b.toNat : Nat) : Int) ((d.toNat : Nat) : Int) := by unfold addI; rw [Int.toNat_natCast, Int.toNat_natCast]
  have H1 : Hid (canonI (re : Int) = addI a c) := Lib.hid (by rw [e1]; exact h1)
  have H2 : Hid (canonI (im : Int) = addI b d) := Lib.hid (by rw [e2]; exact h2)
  have T1 := Lib.hid (told_any re h3)
  have T2 := Lib.hid (told_any im h4)
  rw [H1.out] at T1
  rw [H2.out] at T2
  clear h1 h2 h3 h4 e1 e2 H1 H2
  go_enter Try.func71, Try.ntmps71
  go_wp2_with (first
    | (go_at_call 93; refine (phasor_any _ _ _).mono ?_; rintro e w' ⟨rfl, rfl⟩)
    | (go_at_call_of 94 re; refine (T1.out _).mono ?_; rintro e w' ⟨rfl, rfl⟩)
    | (go_at_call_of 94 im; refine (T2.out _).mono ?_; rintro e w' ⟨rfl, rfl⟩))
  go_ret2
  exact ⟨rfl, q, rfl⟩
end Go.Proofs.Ytiiibhdohlpodaa

namespace Go.Proofs.Ytiiibhdohlpodaa
open Go.RowKit
attribute [local go_sem ↓] Go.wp_at_zero Go.wp_at_succ
/-- The boxes of more: the state, the point, the answer, the sum. -/
structure MB (w : World) (q g8 : Nat) (CS CX SX : Array Value) : Prop where
  bs : w.heap[q]? = some (.cells CS 32 (0, 0))
  bx : w.heap[q + 1]? = some (.cells CX 37 (0, 0))
  bz : w.heap[q + 1 + 1]? = some (.cells #[.string { data := #[] }, .slice none 0 0, .int .i64 0, .int .i64 0, .bool false, .int .i64 0, .int .i64 0, .int .i64 0, .int .u64 0, .int .u64 0, .int .i64 0, .int .u64 0, .int .i64 0, .slice none 0 0, .int .i64 0, .slice none 0 0, .int .i64 0] 37 (0, 0))
  b8 : w.heap[g8]? = some (.cells SX 37 (0, 0))
  lt : q + 1 + 1 < g8
section
variable {w w' : World} {q g8 : Nat} {CS CX SX CX' SX' : Array Value}
theorem MB.on (h : MB w q g8 CS CX SX) (k : Kept (fun _ => False) w w') : MB w' q g8 CS CX SX := ⟨k.same h.bs (fun x => x), k.same h.bx (fun x => x), k.same h.bz (fun x => x), k.same h.b8 (fun x => x), h.lt⟩
theorem MB.out (h : MB w q g8 CS CX SX) (k : Kept (fun i => i = g8) w w') (hb : w'.heap[g8]? = some (.cells SX' 37 (0, 0))) : MB w' q g8 CS CX SX' :=
  ⟨k.same h.bs (by have := h.lt; omega), k.same h.bx (by have := h.lt; omega), k.same h.bz (by have := h.lt; omega), hb, h.lt⟩
theorem MB.put (h : MB w q g8 CS CX SX) (i : Nat) (v : Value) (e : SX.setIfInBounds i v = SX') : MB (w.setCell ⟨g8, i, none⟩ v) q g8 CS CX SX' ∧ Kept (fun k => k = g8) w (w.setCell ⟨g8, i, none⟩ v) :=
  have kk := (Kept.refl (fun k => k = g8) w).setCell (p := ⟨g8, i, none⟩) (fun _ => rfl) v
  ⟨h.out kk (by rw [← e]; exact heap_setCell_same _ _ i _ _ _ h.b8), kk⟩
theorem MB.putX (h : MB w q g8 CS CX SX) (i : Nat) (v : Value) (e : CX.setIfInBounds i v = CX') : MB (w.setCell ⟨q + 1, i, none⟩ v) q g8 CS CX' SX ∧ Kept (fun k => k = q + 1) w (w.setCell ⟨q + 1, i, none⟩ v) :=
  have kk := (Kept.refl (fun k => k = q + 1) w).setCell (p := ⟨q + 1, i, none⟩) (fun _ => rfl) v
  ⟨⟨kk.same h.bs (by omega), by rw [← e]; exact heap_setCell_same _ _ i _ _ _ h.bx, kk.same h.bz (by omega), kk.same h.b8 (by have := h.lt; omega), h.lt⟩, kk⟩
end
theorem urow_new (w : World) (l : List Int) : URow (w.alloc (.cells (l.map (Value.int .u64)).toArray 25)) (some ⟨w.heap.size, 0, none⟩) l := by
  intro _
  refine ⟨_, _, rfl, fun i x hx => ?_⟩
  have h := heap_alloc_new w (.cells (l.map (Value.int .u64)).toArray 25)
  rw [Nat.zero_add]
  exact cell_rowZ i _ h (by simp [hx])
def U64I (a : Int) : Prop := 0 ≤ a ∧ a ≤ 18446744073709551615
theorem fin16_2 (g : Nat) (a b : Int) (w : World) (hr : URow w (some ⟨g, 0, none⟩) [a, b]) (ha : U64I a) (hb : U64I b) :
    Calls Try.prog 72 #[.slice (some ⟨g, 0, none⟩) 2 2] w fun e w' => e = .returned (.bool (finI a && finI b)) ∧ Kept (fun _ => False) w w' := by
  have h := finAll16_any (some ⟨g, 0, none⟩) 2 [a, b] w hr (by intro x hx; simp at hx; rcases hx with rfl | rfl <;> assumption) (by simp)
  simpa using h
theorem fin16_4 (g : Nat) (a b c d : Int) (w : World) (hr : URow w (some ⟨g, 0, none⟩) [a, b, c, d]) (ha : U64I a) (hb : U64I b) (hc : U64I c) (hd : U64I d) :
    Calls Try.prog 72 #[.slice (some ⟨g, 0, none⟩) 4 4] w fun e w' => e = .returned (.bool (fin4 a b c d)) ∧ Kept (fun _ => False) w w' := by
  have h := finAll16_any (some ⟨g, 0, none⟩) 4 [a, b, c, d] w hr (by intro x hx; simp at hx; rcases hx with rfl | rfl | rfl | rfl <;> assumption) (by simp)
  have e : [a, b, c, d].all finI = fin4 a b c d := by unfold fin4; simp [Bool.and_assoc]
  rw [e] at h
  exact h
theorem canonI_u64 {a : Int} (h : U64I a) : U64I (canonI a) := by
  unfold canonI U64I at *
  split
  · exact ⟨by decide, by decide⟩
  · exact h
theorem addI_u64 (a b : Int) : U64I (addI a b) := by
  unfold addI
  cases h : floatBits .add .f64 a.toNat b.toNat with
  | none => exact ⟨by decide, by decide⟩
  | some r => exact canonI_u64 ⟨by omega, bits_lt h⟩
end Go.Proofs.Ytiiibhdohlpodaa

namespace Go.Proofs.Ytiiibhdohlpodaa
open Go.RowKit
attribute [local go_sem ↓] Go.wp_at_zero Go.wp_at_succ
set_option maxHeartbeats 1000000 in
set_option maxRecDepth 100000 in
theorem more2_any (s : StV) (sp sn : Value) (x : Pnt) (a1 a2 a3 : Option Addr) (c1 c2 c3 : Nat) (most : Int) (W w : World) (n : NewP W w x a1 a2 a3 c1 c2 c3) (hk : x.kind = 2) (hs1 : U64I s.re) (hs2 : U64I s.im) (hx1 : U64I x.re) (hx2 : U64I x.im) : Calls Try.prog 50 #[.agg (stC s sp sn), .agg (pntC x (.slice a1 x.L.length c1) (.slice a2 x.h.pl.length c2) (.slice a3 x.h.nl.length c3)), .int .i64 most] w fun e w' => ∃ v, e = .returned v ∧ GotP W w' (moreA s x most) v ∧ Kept (fun _ => False) w w' := by
  have HKI := Lib.hid hk
  have HUS := Lib.hid (And.intro hs1 hs2)
  have HUX := Lib.hid (And.intro hx1 hx2)
  clear hs1 hs2 hx1 hx2
  have HNA := Lib.hid n
  obtain ⟨av, hav⟩ : ∃ v, v = Value.slice a1 x.L.length c1 := ⟨_, rfl⟩
  obtain ⟨pv, hpv⟩ : ∃ v, v = Value.slice a2 x.h.pl.length c2 := ⟨_, rfl⟩
  obtain ⟨nv, hnv⟩ : ∃ v, v = Value.slice a3 x.h.nl.length c3 := ⟨_, rfl⟩
  have HVS := Lib.hid (And.intro hav (And.intro hpv hnv))
  have hv : Ones av pv nv := by rw [hav, hpv, hnv]; exact ones_slices _ _ _ _ _ _ _ _ _
  rw [← hav, ← hpv, ← hnv]
  have HAV := Lib.hid hv
  obtain ⟨q, hq⟩ : ∃ q, q = w.heap.size := ⟨_, rfl⟩
  obtain ⟨CS, hCS⟩ : ∃ a, a = stC s sp sn := ⟨_, rfl⟩
  obtain ⟨CX, hCX⟩ : ∃ a, a = pntC x av pv nv := ⟨_, rfl⟩
  rw [← hCS, ← hCX]
  obtain ⟨w2, hw2⟩ : ∃ w2, w2 = ((w.alloc (.cells CS 32)).alloc (.cells CX 37)).alloc (.cells #[.string { data := #[] }, .slice none 0 0, .int .i64 0, .int .i64 0, .bool false, .int .i64 0, .int .i64 0, .int .i64 0, .int .u64 0, .int .u64 0, .int .i64 0, .int .u64 0, .int .i64 0, .slice none 0 0, .int .i64 0, .slice none 0 0, .int .i64 0] 37) := ⟨_, rfl⟩
  have k2 : Kept (fun _ => False) w w2 := by rw [hw2]; exact (((Kept.refl _ _).alloc _).alloc _).alloc _
  have hb1 : w2.heap[q]? = some (.cells CS 32 (0, 0)) := by rw [hw2, hq]; exact (((Kept.refl (fun _ => False) _).alloc _).alloc _).same (heap_alloc_new w _) (fun x => x)
  have hb2 : w2.heap[q + 1]? = some (.cells CX 37 (0, 0)) := by rw [hw2, hq]; exact ((Kept.refl (fun _ => False) _).alloc _).same (box_second2 w _ _) (fun x => x)
  have hb3 : w2.heap[q + 1 + 1]? = some (.cells #[.string { data := #[] }, .slice none 0 0, .int .i64 0, .int .i64 0, .bool false, .int .i64 0, .int .i64 0, .int .i64 0, .int .u64 0, .int .u64 0, .int .i64 0, .int .u64 0, .int .i64 0, .slice none 0 0, .int .i64 0, .slice none 0 0, .int .i64 0] 37 (0, 0)) := by rw [hw2, hq]; exact heap_third w _ _ _
  have HK2 := Lib.hid k2
  have HW2 := Lib.hid (And.intro hw2 hq)
  have HB2 := Lib.hid hb2
  have HB3 := Lib.hid hb3
  have HB1 := Lib.hid hb1
  have HCX := Lib.hid hCX
  have HCS := Lib.hid hCS
  have HIX : Hid ((Try.prog.info? 37).map (·.size) = some CX.size ∧ CX.size = 17 ∧ CX.all (·.oneCell') = true) := Lib.hid (by rw [hCX]; exact ⟨point_info, rfl, pntC_one' hv⟩)
  clear hCS hCX k2 hb1 hb2 hb3 hw2 hq hv hav hpv hnv n
  obtain ⟨g8, hg8⟩ : ∃ g, g = w2.heap.size := ⟨_, rfl⟩
  have HG8 := Lib.hid hg8
  have HLT : Hid (q + 1 + 1 < g8) := Lib.hid (by rw [hg8]; exact (Array.getElem?_eq_some_iff.1 HB3.out).1)
  clear hg8
  obtain ⟨re, hre⟩ : ∃ r, r = addI s.re x.re := ⟨_, rfl⟩
  obtain ⟨im, him⟩ : ∃ r, r = addI s.im x.im := ⟨_, rfl⟩
  have HRE : Hid (U64I re ∧ U64I im) := Lib.hid (by rw [hre, him]; exact ⟨addI_u64 _ _, addI_u64 _ _⟩)
  have hm : moreA s x most = if (finI re && finI im) || !fin4 s.re s.im x.re x.im then { x with re := re, im := im, start := s.start } else { x with flags := 16 } := by unfold moreA; rw [if_neg (by rw [hk]; decide), if_neg (by rw [hk]; decide), ← hre, ← him]
  rw [hm]
  have HRD := Lib.hid (And.intro hre him)
  have HCA := Lib.hid (fun w => addPhasor_any s.re s.im x.re x.im w)
  rw [← hre, ← him] at HCA
  obtain ⟨SX, hSX⟩ : ∃ a, a = pntC { x with re := re, im := im } av pv nv := ⟨_, rfl⟩
  have HSX := Lib.hid hSX
  have HF2 := Lib.hid (fun g w hr => fin16_2 g re im w hr HRE.out.1 HRE.out.2)
  have HF4 := Lib.hid (fun g w hr => fin16_4 g s.re s.im x.re x.im w hr HUS.out.1 HUS.out.2 HUX.out.1 HUX.out.2)
  obtain ⟨b1, hb1⟩ : ∃ b, b = (finI re && finI im) := ⟨_, rfl⟩
  obtain ⟨b2, hb2⟩ : ∃ b, b = fin4 s.re s.im x.re x.im := ⟨_, rfl⟩
  rw [← hb1, ← hb2]
  rw [← hb1] at HF2
  rw [← hb2] at HF4
  have HAW := HAV
  clear hre him hm hSX hk hb1 hb2
  cases b1 with
  | true =>
    rw [Bool.true_or, if_pos rfl]
    go_enter Try.func50, Try.ntmps50
    go_upto_region 1 with fail
    rw [← HW2.out.1, ← HW2.out.2]
    go_upto_region 3 with (first | (refine wpList_load_row rfl 37 (.tmp 4) rfl (q + 1) rfl 37 _ (0, 0) _ HB2.out Try.underlying37 rfl HIX.out.1 ?_) | (refine wpList_store_box rfl 37 (.tmp 8) _ rfl w2 _ CX 37 rfl rfl rfl HIX.out.1 (by rw [HIX.out.2.1]; rfl) HIX.out.2.2 ?_; intro w3 hb3 k3; have HM3 : Hid (MB w3 q g8 CS CX CX) := Lib.hid ⟨k3.same HB1.out (fun x => x), k3.same HB2.out (fun x => x), k3.same HB3.out (fun x => x), by rw [HG8.out]; exact hb3, HLT.out⟩; have HK3 := Lib.hid (HK2.out.trans k3); clear hb3 k3))
    rw [← HG8.out]
    have p2 : w3.cell? ⟨q + 1, 2, none⟩ = some (.int .i64 2) := cell_rowZ 2 _ HM3.out.bx (by rw [HCX.out, ← HKI.out]; rfl)
    have s4 : w3.cell? ⟨q, 4, none⟩ = some (.int .u64 s.re) := cell_rowZ 4 _ HM3.out.bs (by rw [HCS.out]; rfl)
    have s5 : w3.cell? ⟨q, 5, none⟩ = some (.int .u64 s.im) := cell_rowZ 5 _ HM3.out.bs (by rw [HCS.out]; rfl)
    have p8 : w3.cell? ⟨q + 1, 8, none⟩ = some (.int .u64 x.re) := cell_rowZ 8 _ HM3.out.bx (by rw [HCX.out]; rfl)
    have p9 : w3.cell? ⟨q + 1, 9, none⟩ = some (.int .u64 x.im) := cell_rowZ 9 _ HM3.out.bx (by rw [HCX.out]; rfl)
    go_upto_region 10 with (go_at_call 71; refine (HCA.out _).mono ?_; rintro e w4 ⟨rfl, n, hn⟩; have k4 : Kept (fun _ => False) w3 w4 := (by rw [hn]; exact (Kept.refl _ _).drewN n); have HM4 := Lib.hid (HM3.out.on k4); have HK4 := Lib.hid (HK3.out.trans k4); clear hn k4; have c8 : w4.cell? ⟨g8, 8, none⟩ = some (.int .u64 x.re) := cell_rowZ 8 _ HM4.out.b8 (by rw [HCX.out]; rfl); have f8 := free_of_rowZ 8 HM4.out.b8; have c9 : w4.cell? ⟨g8, 9, none⟩ = some (.int .u64 x.im) := cell_rowZ 9 _ HM4.out.b8 (by rw [HCX.out]; rfl); have f9 := free_of_rowZ 9 HM4.out.b8)
    clear s4 s5 p8 p9 p2
    obtain ⟨w5, hw5⟩ : ∃ w', w' = (w4.setCell ⟨g8, 8, none⟩ (.int .u64 re)).setCell ⟨g8, 9, none⟩ (.int .u64 im) := ⟨_, rfl⟩
    have h5 := HM4.out.put 8 (.int .u64 re) (SX' := CX.setIfInBounds 8 (.int .u64 re)) rfl
    have h5' := h5.1.put 9 (.int .u64 im) (SX' := SX) (by rw [HSX.out, HCX.out]; rfl)
    rw [← hw5] at h5'
    have HM5 := Lib.hid h5'.1
    have HK5 := Lib.hid ((HK4.out.newer h5.2 (fun i e => by have := HLT.out; have := HW2.out.2; omega)).newer h5'.2 (fun i e => by have := HLT.out; have := HW2.out.2; omega))
    rw [← hw5]
    clear hw5 h5 h5' c8 f8 c9 f9
    have c8 : w5.cell? ⟨g8, 8, none⟩ = some (.int .u64 re) := cell_rowZ 8 _ HM5.out.b8 (by rw [HSX.out]; rfl)
    have c9 : w5.cell? ⟨g8, 9, none⟩ = some (.int .u64 im) := cell_rowZ 9 _ HM5.out.b8 (by rw [HSX.out]; rfl)
    obtain ⟨iU, hiU, hzU0, hzU1, hzU2⟩ := info_parts Try.infoU64
    go_upto_region 13 with (first | (go_at_call 72; clear c8 c9; refine (HF2.out _ _ (urow_new _ [re, im])).mono ?_; rintro e w7 ⟨rfl, k7⟩; have k57 : Kept (fun _ => False) w5 w7 := (((Kept.refl _ _).alloc _).trans k7); have HM7 := Lib.hid (HM5.out.on k57); have HK7 := Lib.hid (HK5.out.trans k57); clear k7 k57))
    clear hiU hzU0 hzU1 hzU2
    have c5' : w7.cell? ⟨g8, 5, none⟩ = some (.int .i64 x.start) := cell_rowZ 5 _ HM7.out.b8 (by rw [HSX.out]; rfl)
    have f5' := free_of_rowZ 5 HM7.out.b8
    have s1' : w7.cell? ⟨q, 1, none⟩ = some (.int .i64 s.start) := cell_rowZ 1 _ HM7.out.bs (by rw [HCS.out]; rfl)
    go_upto_region 17 with fail
    obtain ⟨wE, hwE⟩ : ∃ w', w' = w7.setCell ⟨g8, 5, none⟩ (.int .i64 s.start) := ⟨_, rfl⟩
    obtain ⟨NX, hNX⟩ : ∃ a, a = pntC { x with re := re, im := im, start := s.start } av pv nv := ⟨_, rfl⟩
    have hE := HM7.out.put 5 (.int .i64 s.start) (SX' := NX) (by rw [hNX, HSX.out]; rfl)
    rw [← hwE] at hE
    have HME := Lib.hid hE.1
    have HKE := Lib.hid (HK7.out.newer hE.2 (fun i e => by have := HLT.out; have := HW2.out.2; omega))
    have HIN : Hid ((Try.prog.info? 37).map (·.size) = some NX.size ∧ (#[.string { data := #[] }, .slice none 0 0, .int .i64 0, .int .i64 0, .bool false, .int .i64 0, .int .i64 0, .int .i64 0, .int .u64 0, .int .u64 0, .int .i64 0, .int .u64 0, .int .i64 0, .slice none 0 0, .int .i64 0, .slice none 0 0, .int .i64 0] : Array Value).size = NX.size ∧ NX.all (·.oneCell') = true) := Lib.hid (by rw [hNX]; exact ⟨point_info, rfl, pntC_one' HAW.out⟩)
    have HNX := Lib.hid hNX
    rw [← hwE]
    clear hwE hE hNX c5' f5' s1'
    go_wp2_with (first
      | (refine wpList_load_row rfl 37 (.tmp 8) rfl g8 rfl 37 _ (0, 0) _ HME.out.b8 Try.underlying37 rfl HIN.out.1 ?_)
      | (refine wpList_store_row rfl 37 (.tmp 6) _ rfl (q + 1 + 1) NX rfl rfl 37 _ HME.out.bz HIN.out.1 HIN.out.2.1 HIN.out.2.2 ?_)
      | fail)
    refine bodyPost_ret (results_cell_row Try.results50 _ _ (q + 1 + 1) 37 _ (0, 0) _ rfl (setRow_heap _ _ _ _ _ _ HME.out.bz) Try.underlying37 rfl HIN.out.1) rfl ?_
    have kF := HKE.out.newer (setRow_keptW wE (q + 1 + 1) NX) (fun i e => by have := HW2.out.2; omega)
    obtain ⟨wF, hwF⟩ : ∃ w', w' = wE.setRow (q + 1 + 1) NX := ⟨_, rfl⟩
    rw [← hwF] at kF ⊢
    refine ⟨_, rfl, ?_, kF⟩
    rw [HNX.out, HVS.out.1, HVS.out.2.1, HVS.out.2.2]
    exact GotP.parts (y := { x with re := re, im := im, start := s.start }) (HNA.out.on kF) ⟨rfl, rfl⟩
  | false =>
    rw [Bool.false_or]
    cases b2 with
    | true =>
      rw [Bool.not_true, if_neg (by decide)]
      go_enter Try.func50, Try.ntmps50
      go_upto_region 1 with fail
      rw [← HW2.out.1, ← HW2.out.2]
      go_upto_region 3 with (first | (refine wpList_load_row rfl 37 (.tmp 4) rfl (q + 1) rfl 37 _ (0, 0) _ HB2.out Try.underlying37 rfl HIX.out.1 ?_) | (refine wpList_store_box rfl 37 (.tmp 8) _ rfl w2 _ CX 37 rfl rfl rfl HIX.out.1 (by rw [HIX.out.2.1]; rfl) HIX.out.2.2 ?_; intro w3 hb3 k3; have HM3 : Hid (MB w3 q g8 CS CX CX) := Lib.hid ⟨k3.same HB1.out (fun x => x), k3.same HB2.out (fun x => x), k3.same HB3.out (fun x => x), by rw [HG8.out]; exact hb3, HLT.out⟩; have HK3 := Lib.hid (HK2.out.trans k3); clear hb3 k3))
      rw [← HG8.out]
      have p2 : w3.cell? ⟨q + 1, 2, none⟩ = some (.int .i64 2) := cell_rowZ 2 _ HM3.out.bx (by rw [HCX.out, ← HKI.out]; rfl)
      have s4 : w3.cell? ⟨q, 4, none⟩ = some (.int .u64 s.re) := cell_rowZ 4 _ HM3.out.bs (by rw [HCS.out]; rfl)
      have s5 : w3.cell? ⟨q, 5, none⟩ = some (.int .u64 s.im) := cell_rowZ 5 _ HM3.out.bs (by rw [HCS.out]; rfl)
      have p8 : w3.cell? ⟨q + 1, 8, none⟩ = some (.int .u64 x.re) := cell_rowZ 8 _ HM3.out.bx (by rw [HCX.out]; rfl)
      have p9 : w3.cell? ⟨q + 1, 9, none⟩ = some (.int .u64 x.im) := cell_rowZ 9 _ HM3.out.bx (by rw [HCX.out]; rfl)
      go_upto_region 10 with (go_at_call 71; refine (HCA.out _).mono ?_; rintro e w4 ⟨rfl, n, hn⟩; have k4 : Kept (fun _ => False) w3 w4 := (by rw [hn]; exact (Kept.refl _ _).drewN n); have HM4 := Lib.hid (HM3.out.on k4); have HK4 := Lib.hid (HK3.out.trans k4); clear hn k4; have c8 : w4.cell? ⟨g8, 8, none⟩ = some (.int .u64 x.re) := cell_rowZ 8 _ HM4.out.b8 (by rw [HCX.out]; rfl); have f8 := free_of_rowZ 8 HM4.out.b8; have c9 : w4.cell? ⟨g8, 9, none⟩ = some (.int .u64 x.im) := cell_rowZ 9 _ HM4.out.b8 (by rw [HCX.out]; rfl); have f9 := free_of_rowZ 9 HM4.out.b8)
      clear s4 s5 p8 p9 p2
      obtain ⟨w5, hw5⟩ : ∃ w', w' = (w4.setCell ⟨g8, 8, none⟩ (.int .u64 re)).setCell ⟨g8, 9, none⟩ (.int .u64 im) := ⟨_, rfl⟩
      have h5 := HM4.out.put 8 (.int .u64 re) (SX' := CX.setIfInBounds 8 (.int .u64 re)) rfl
      have h5' := h5.1.put 9 (.int .u64 im) (SX' := SX) (by rw [HSX.out, HCX.out]; rfl)
      rw [← hw5] at h5'
      have HM5 := Lib.hid h5'.1
      have HK5 := Lib.hid ((HK4.out.newer h5.2 (fun i e => by have := HLT.out; have := HW2.out.2; omega)).newer h5'.2 (fun i e => by have := HLT.out; have := HW2.out.2; omega))
      rw [← hw5]
      clear hw5 h5 h5' c8 f8 c9 f9
      have c8 : w5.cell? ⟨g8, 8, none⟩ = some (.int .u64 re) := cell_rowZ 8 _ HM5.out.b8 (by rw [HSX.out]; rfl)
      have c9 : w5.cell? ⟨g8, 9, none⟩ = some (.int .u64 im) := cell_rowZ 9 _ HM5.out.b8 (by rw [HSX.out]; rfl)
      obtain ⟨iU, hiU, hzU0, hzU1, hzU2⟩ := info_parts Try.infoU64
      go_upto_region 13 with (first | (go_at_call 72; clear c8 c9; refine (HF2.out _ _ (urow_new _ [re, im])).mono ?_; rintro e w7 ⟨rfl, k7⟩; have k57 : Kept (fun _ => False) w5 w7 := (((Kept.refl _ _).alloc _).trans k7); have HM7 := Lib.hid (HM5.out.on k57); have HK7 := Lib.hid (HK5.out.trans k57); clear k7 k57; have s4 : w7.cell? ⟨q, 4, none⟩ = some (.int .u64 s.re) := cell_rowZ 4 _ HM7.out.bs (by rw [HCS.out]; rfl); have s5 : w7.cell? ⟨q, 5, none⟩ = some (.int .u64 s.im) := cell_rowZ 5 _ HM7.out.bs (by rw [HCS.out]; rfl); have p8 : w7.cell? ⟨q + 1, 8, none⟩ = some (.int .u64 x.re) := cell_rowZ 8 _ HM7.out.bx (by rw [HCX.out]; rfl); have p9 : w7.cell? ⟨q + 1, 9, none⟩ = some (.int .u64 x.im) := cell_rowZ 9 _ HM7.out.bx (by rw [HCX.out]; rfl)) | (go_at_call 72; clear s4 s5 p8 p9; refine (HF4.out _ _ (urow_new _ [s.re, s.im, x.re, x.im])).mono ?_; rintro e w9 ⟨rfl, k9⟩; have k79 : Kept (fun _ => False) w7 w9 := (((Kept.refl _ _).alloc _).trans k9); have HM9 := Lib.hid (HM7.out.on k79); have HK9 := Lib.hid (HK7.out.trans k79); clear k9 k79))
      clear hiU hzU0 hzU1 hzU2
      have c16' : w9.cell? ⟨q + 1, 16, none⟩ = some (.int .i64 x.flags) := cell_rowZ 16 _ HM9.out.bx (by rw [HCX.out]; rfl)
      have f16' := free_of_rowZ 16 HM9.out.bx
      go_upto_region 15 with fail
      obtain ⟨wE, hwE⟩ : ∃ w', w' = w9.setCell ⟨q + 1, 16, none⟩ (.int .i64 16) := ⟨_, rfl⟩
      obtain ⟨NX, hNX⟩ : ∃ a, a = pntC { x with flags := 16 } av pv nv := ⟨_, rfl⟩
      have hE := HM9.out.putX 16 (.int .i64 16) (CX' := NX) (by rw [hNX, HCX.out]; rfl)
      rw [← hwE] at hE
      have HME := Lib.hid hE.1
      have HKE := Lib.hid (HK9.out.newer hE.2 (fun i e => by have := HW2.out.2; omega))
      have HIN : Hid ((Try.prog.info? 37).map (·.size) = some NX.size ∧ (#[.string { data := #[] }, .slice none 0 0, .int .i64 0, .int .i64 0, .bool false, .int .i64 0, .int .i64 0, .int .i64 0, .int .u64 0, .int .u64 0, .int .i64 0, .int .u64 0, .int .i64 0, .slice none 0 0, .int .i64 0, .slice none 0 0, .int .i64 0] : Array Value).size = NX.size ∧ NX.all (·.oneCell') = true) := Lib.hid (by rw [hNX]; exact ⟨point_info, rfl, pntC_one' HAV.out⟩)
      have HNX := Lib.hid hNX
      rw [← hwE]
      clear hwE hE hNX c16' f16'
      go_wp2_with (first
        | (refine wpList_load_row rfl 37 (.tmp 4) rfl (q + 1) rfl 37 _ (0, 0) _ HME.out.bx Try.underlying37 rfl HIN.out.1 ?_)
        | (refine wpList_store_row rfl 37 (.tmp 6) _ rfl (q + 1 + 1) NX rfl rfl 37 _ HME.out.bz HIN.out.1 HIN.out.2.1 HIN.out.2.2 ?_)
        | fail)
      refine bodyPost_ret (results_cell_row Try.results50 _ _ (q + 1 + 1) 37 _ (0, 0) _ rfl (setRow_heap _ _ _ _ _ _ HME.out.bz) Try.underlying37 rfl HIN.out.1) rfl ?_
      have kF := HKE.out.newer (setRow_keptW wE (q + 1 + 1) NX) (fun i e => by have := HW2.out.2; omega)
      obtain ⟨wF, hwF⟩ : ∃ w', w' = wE.setRow (q + 1 + 1) NX := ⟨_, rfl⟩
      rw [← hwF] at kF ⊢
      refine ⟨_, rfl, ?_, kF⟩
      rw [HNX.out, HVS.out.1, HVS.out.2.1, HVS.out.2.2]
      exact GotP.parts (y := { x with flags := 16 }) (HNA.out.on kF) ⟨rfl, rfl⟩
    | false =>
      rw [Bool.not_false, if_pos rfl]
      go_enter Try.func50, Try.ntmps50
      go_upto_region 1 with fail
      rw [← HW2.out.1, ← HW2.out.2]
      go_upto_region 3 with (first | (refine wpList_load_row rfl 37 (.tmp 4) rfl (q + 1) rfl 37 _ (0, 0) _ HB2.out Try.underlying37 rfl HIX.out.1 ?_) | (refine wpList_store_box rfl 37 (.tmp 8) _ rfl w2 _ CX 37 rfl rfl rfl HIX.out.1 (by rw [HIX.out.2.1]; rfl) HIX.out.2.2 ?_; intro w3 hb3 k3; have HM3 : Hid (MB w3 q g8 CS CX CX) := Lib.hid ⟨k3.same HB1.out (fun x => x), k3.same HB2.out (fun x => x), k3.same HB3.out (fun x => x), by rw [HG8.out]; exact hb3, HLT.out⟩; have HK3 := Lib.hid (HK2.out.trans k3); clear hb3 k3))
      rw [← HG8.out]
      have p2 : w3.cell? ⟨q + 1, 2, none⟩ = some (.int .i64 2) := cell_rowZ 2 _ HM3.out.bx (by rw [HCX.out, ← HKI.out]; rfl)
      have s4 : w3.cell? ⟨q, 4, none⟩ = some (.int .u64 s.re) := cell_rowZ 4 _ HM3.out.bs (by rw [HCS.out]; rfl)
      have s5 : w3.cell? ⟨q, 5, none⟩ = some (.int .u64 s.im) := cell_rowZ 5 _ HM3.out.bs (by rw [HCS.out]; rfl)
      have p8 : w3.cell? ⟨q + 1, 8, none⟩ = some (.int .u64 x.re) := cell_rowZ 8 _ HM3.out.bx (by rw [HCX.out]; rfl)
      have p9 : w3.cell? ⟨q + 1, 9, none⟩ = some (.int .u64 x.im) := cell_rowZ 9 _ HM3.out.bx (by rw [HCX.out]; rfl)
      go_upto_region 10 with (go_at_call 71; refine (HCA.out _).mono ?_; rintro e w4 ⟨rfl, n, hn⟩; have k4 : Kept (fun _ => False) w3 w4 := (by rw [hn]; exact (Kept.refl _ _).drewN n); have HM4 := Lib.hid (HM3.out.on k4); have HK4 := Lib.hid (HK3.out.trans k4); clear hn k4; have c8 : w4.cell? ⟨g8, 8, none⟩ = some (.int .u64 x.re) := cell_rowZ 8 _ HM4.out.b8 (by rw [HCX.out]; rfl); have f8 := free_of_rowZ 8 HM4.out.b8; have c9 : w4.cell? ⟨g8, 9, none⟩ = some (.int .u64 x.im) := cell_rowZ 9 _ HM4.out.b8 (by rw [HCX.out]; rfl); have f9 := free_of_rowZ 9 HM4.out.b8)
      clear s4 s5 p8 p9 p2
      obtain ⟨w5, hw5⟩ : ∃ w', w' = (w4.setCell ⟨g8, 8, none⟩ (.int .u64 re)).setCell ⟨g8, 9, none⟩ (.int .u64 im) := ⟨_, rfl⟩
      have h5 := HM4.out.put 8 (.int .u64 re) (SX' := CX.setIfInBounds 8 (.int .u64 re)) rfl
      have h5' := h5.1.put 9 (.int .u64 im) (SX' := SX) (by rw [HSX.out, HCX.out]; rfl)
      rw [← hw5] at h5'
      have HM5 := Lib.hid h5'.1
      have HK5 := Lib.hid ((HK4.out.newer h5.2 (fun i e => by have := HLT.out; have := HW2.out.2; omega)).newer h5'.2 (fun i e => by have := HLT.out; have := HW2.out.2; omega))
      rw [← hw5]
      clear hw5 h5 h5' c8 f8 c9 f9
      have c8 : w5.cell? ⟨g8, 8, none⟩ = some (.int .u64 re) := cell_rowZ 8 _ HM5.out.b8 (by rw [HSX.out]; rfl)
      have c9 : w5.cell? ⟨g8, 9, none⟩ = some (.int .u64 im) := cell_rowZ 9 _ HM5.out.b8 (by rw [HSX.out]; rfl)
      obtain ⟨iU, hiU, hzU0, hzU1, hzU2⟩ := info_parts Try.infoU64
      go_upto_region 13 with (first | (go_at_call 72; clear c8 c9; refine (HF2.out _ _ (urow_new _ [re, im])).mono ?_; rintro e w7 ⟨rfl, k7⟩; have k57 : Kept (fun _ => False) w5 w7 := (((Kept.refl _ _).alloc _).trans k7); have HM7 := Lib.hid (HM5.out.on k57); have HK7 := Lib.hid (HK5.out.trans k57); clear k7 k57; have s4 : w7.cell? ⟨q, 4, none⟩ = some (.int .u64 s.re) := cell_rowZ 4 _ HM7.out.bs (by rw [HCS.out]; rfl); have s5 : w7.cell? ⟨q, 5, none⟩ = some (.int .u64 s.im) := cell_rowZ 5 _ HM7.out.bs (by rw [HCS.out]; rfl); have p8 : w7.cell? ⟨q + 1, 8, none⟩ = some (.int .u64 x.re) := cell_rowZ 8 _ HM7.out.bx (by rw [HCX.out]; rfl); have p9 : w7.cell? ⟨q + 1, 9, none⟩ = some (.int .u64 x.im) := cell_rowZ 9 _ HM7.out.bx (by rw [HCX.out]; rfl)) | (go_at_call 72; clear s4 s5 p8 p9; refine (HF4.out _ _ (urow_new _ [s.re, s.im, x.re, x.im])).mono ?_; rintro e w9 ⟨rfl, k9⟩; have k79 : Kept (fun _ => False) w7 w9 := (((Kept.refl _ _).alloc _).trans k9); have HM9 := Lib.hid (HM7.out.on k79); have HK9 := Lib.hid (HK7.out.trans k79); clear k9 k79))
      clear hiU hzU0 hzU1 hzU2
      have c5' : w9.cell? ⟨g8, 5, none⟩ = some (.int .i64 x.start) := cell_rowZ 5 _ HM9.out.b8 (by rw [HSX.out]; rfl)
      have f5' := free_of_rowZ 5 HM9.out.b8
      have s1' : w9.cell? ⟨q, 1, none⟩ = some (.int .i64 s.start) := cell_rowZ 1 _ HM9.out.bs (by rw [HCS.out]; rfl)
      go_upto_region 17 with fail
      obtain ⟨wE, hwE⟩ : ∃ w', w' = w9.setCell ⟨g8, 5, none⟩ (.int .i64 s.start) := ⟨_, rfl⟩
      obtain ⟨NX, hNX⟩ : ∃ a, a = pntC { x with re := re, im := im, start := s.start } av pv nv := ⟨_, rfl⟩
      have hE := HM9.out.put 5 (.int .i64 s.start) (SX' := NX) (by rw [hNX, HSX.out]; rfl)
      rw [← hwE] at hE
      have HME := Lib.hid hE.1
      have HKE := Lib.hid (HK9.out.newer hE.2 (fun i e => by have := HLT.out; have := HW2.out.2; omega))
      have HIN : Hid ((Try.prog.info? 37).map (·.size) = some NX.size ∧ (#[.string { data := #[] }, .slice none 0 0, .int .i64 0, .int .i64 0, .bool false, .int .i64 0, .int .i64 0, .int .i64 0, .int .u64 0, .int .u64 0, .int .i64 0, .int .u64 0, .int .i64 0, .slice none 0 0, .int .i64 0, .slice none 0 0, .int .i64 0] : Array Value).size = NX.size ∧ NX.all (·.oneCell') = true) := Lib.hid (by rw [hNX]; exact ⟨point_info, rfl, pntC_one' HAW.out⟩)
      have HNX := Lib.hid hNX
      rw [← hwE]
      clear hwE hE hNX c5' f5' s1'
      go_wp2_with (first
        | (refine wpList_load_row rfl 37 (.tmp 8) rfl g8 rfl 37 _ (0, 0) _ HME.out.b8 Try.underlying37 rfl HIN.out.1 ?_)
        | (refine wpList_store_row rfl 37 (.tmp 6) _ rfl (q + 1 + 1) NX rfl rfl 37 _ HME.out.bz HIN.out.1 HIN.out.2.1 HIN.out.2.2 ?_)
        | fail)
      refine bodyPost_ret (results_cell_row Try.results50 _ _ (q + 1 + 1) 37 _ (0, 0) _ rfl (setRow_heap _ _ _ _ _ _ HME.out.bz) Try.underlying37 rfl HIN.out.1) rfl ?_
      have kF := HKE.out.newer (setRow_keptW wE (q + 1 + 1) NX) (fun i e => by have := HW2.out.2; omega)
      obtain ⟨wF, hwF⟩ : ∃ w', w' = wE.setRow (q + 1 + 1) NX := ⟨_, rfl⟩
      rw [← hwF] at kF ⊢
      refine ⟨_, rfl, ?_, kF⟩
      rw [HNX.out, HVS.out.1, HVS.out.2.1, HVS.out.2.2]
      exact GotP.parts (y := { x with re := re, im := im, start := s.start }) (HNA.out.on kF) ⟨rfl, rfl⟩
end Go.Proofs.Ytiiibhdohlpodaa

namespace Go.Proofs.Ytiiibhdohlpodaa
open Go.RowKit
attribute [local go_sem ↓] Go.wp_at_zero Go.wp_at_succ
set_option maxHeartbeats 1000000 in
set_option maxRecDepth 100000 in
theorem more5_any (s : StV) (sp sn : Value) (x : Pnt) (a1 a2 a3 : Option Addr) (c1 c2 c3 : Nat) (most : Int) (W w : World) (n : NewP W w x a1 a2 a3 c1 c2 c3) (hk : x.kind = 5) (hs1 : U64I s.re) (hs2 : U64I s.im) (hx1 : U64I x.re) (hx2 : U64I x.im) : Calls Try.prog 50 #[.agg (stC s sp sn), .agg (pntC x (.slice a1 x.L.length c1) (.slice a2 x.h.pl.length c2) (.slice a3 x.h.nl.length c3)), .int .i64 most] w fun e w' => ∃ v, e = .returned v ∧ GotP W w' (moreA s x most) v ∧ Kept (fun _ => False) w w' := by
  have HKI := Lib.hid hk
  have HUS := Lib.hid (And.intro hs1 hs2)
  have HUX := Lib.hid (And.intro hx1 hx2)
  clear hs1 hs2 hx1 hx2
  have HNA := Lib.hid n
  obtain ⟨av, hav⟩ : ∃ v, v = Value.slice a1 x.L.length c1 := ⟨_, rfl⟩
  obtain ⟨pv, hpv⟩ : ∃ v, v = Value.slice a2 x.h.pl.length c2 := ⟨_, rfl⟩
  obtain ⟨nv, hnv⟩ : ∃ v, v = Value.slice a3 x.h.nl.length c3 := ⟨_, rfl⟩
  have HVS := Lib.hid (And.intro hav (And.intro hpv hnv))
  have hv : Ones av pv nv := by rw [hav, hpv, hnv]; exact ones_slices _ _ _ _ _ _ _ _ _
  rw [← hav, ← hpv, ← hnv]
  have HAV := Lib.hid hv
  obtain ⟨q, hq⟩ : ∃ q, q = w.heap.size := ⟨_, rfl⟩
  obtain ⟨CS, hCS⟩ : ∃ a, a = stC s sp sn := ⟨_, rfl⟩
  obtain ⟨CX, hCX⟩ : ∃ a, a = pntC x av pv nv := ⟨_, rfl⟩
  rw [← hCS, ← hCX]
  obtain ⟨w2, hw2⟩ : ∃ w2, w2 = ((w.alloc (.cells CS 32)).alloc (.cells CX 37)).alloc (.cells #[.string { data := #[] }, .slice none 0 0, .int .i64 0, .int .i64 0, .bool false, .int .i64 0, .int .i64 0, .int .i64 0, .int .u64 0, .int .u64 0, .int .i64 0, .int .u64 0, .int .i64 0, .slice none 0 0, .int .i64 0, .slice none 0 0, .int .i64 0] 37) := ⟨_, rfl⟩
  have k2 : Kept (fun _ => False) w w2 := by rw [hw2]; exact (((Kept.refl _ _).alloc _).alloc _).alloc _
  have hb1 : w2.heap[q]? = some (.cells CS 32 (0, 0)) := by rw [hw2, hq]; exact (((Kept.refl (fun _ => False) _).alloc _).alloc _).same (heap_alloc_new w _) (fun x => x)
  have hb2 : w2.heap[q + 1]? = some (.cells CX 37 (0, 0)) := by rw [hw2, hq]; exact ((Kept.refl (fun _ => False) _).alloc _).same (box_second2 w _ _) (fun x => x)
  have hb3 : w2.heap[q + 1 + 1]? = some (.cells #[.string { data := #[] }, .slice none 0 0, .int .i64 0, .int .i64 0, .bool false, .int .i64 0, .int .i64 0, .int .i64 0, .int .u64 0, .int .u64 0, .int .i64 0, .int .u64 0, .int .i64 0, .slice none 0 0, .int .i64 0, .slice none 0 0, .int .i64 0] 37 (0, 0)) := by rw [hw2, hq]; exact heap_third w _ _ _
  have HK2 := Lib.hid k2
  have HW2 := Lib.hid (And.intro hw2 hq)
  have HB2 := Lib.hid hb2
  have HB3 := Lib.hid hb3
  have HB1 := Lib.hid hb1
  have HCX := Lib.hid hCX
  have HCS := Lib.hid hCS
  have HIX : Hid ((Try.prog.info? 37).map (·.size) = some CX.size ∧ CX.size = 17 ∧ CX.all (·.oneCell') = true) := Lib.hid (by rw [hCX]; exact ⟨point_info, rfl, pntC_one' hv⟩)
  clear hCS hCX k2 hb1 hb2 hb3 hw2 hq hv hav hpv hnv n
  obtain ⟨g8, hg8⟩ : ∃ g, g = w2.heap.size := ⟨_, rfl⟩
  have HG8 := Lib.hid hg8
  have HLT : Hid (q + 1 + 1 < g8) := Lib.hid (by rw [hg8]; exact (Array.getElem?_eq_some_iff.1 HB3.out).1)
  clear hg8
  obtain ⟨re, hre⟩ : ∃ r, r = addI s.re x.re := ⟨_, rfl⟩
  obtain ⟨im, him⟩ : ∃ r, r = addI s.im x.im := ⟨_, rfl⟩
  have HRE : Hid (U64I re ∧ U64I im) := Lib.hid (by rw [hre, him]; exact ⟨addI_u64 _ _, addI_u64 _ _⟩)
  have hm : moreA s x most = if (finI re && finI im) || !fin4 s.re s.im x.re x.im then { x with re := re, im := im, start := s.start } else { x with flags := 16 } := by unfold moreA; rw [if_neg (by rw [hk]; decide), if_neg (by rw [hk]; decide), ← hre, ← him]
  rw [hm]
  have HRD := Lib.hid (And.intro hre him)
  have HCA := Lib.hid (fun w => addPhasor_any s.re s.im x.re x.im w)
  rw [← hre, ← him] at HCA
  obtain ⟨SX, hSX⟩ : ∃ a, a = pntC { x with re := re, im := im } av pv nv := ⟨_, rfl⟩
  have HSX := Lib.hid hSX
  have HF2 := Lib.hid (fun g w hr => fin16_2 g re im w hr HRE.out.1 HRE.out.2)
  have HF4 := Lib.hid (fun g w hr => fin16_4 g s.re s.im x.re x.im w hr HUS.out.1 HUS.out.2 HUX.out.1 HUX.out.2)
  obtain ⟨b1, hb1⟩ : ∃ b, b = (finI re && finI im) := ⟨_, rfl⟩
  obtain ⟨b2, hb2⟩ : ∃ b, b = fin4 s.re s.im x.re x.im := ⟨_, rfl⟩
  rw [← hb1, ← hb2]
  rw [← hb1] at HF2
  rw [← hb2] at HF4
  have HAW := HAV
  clear hre him hm hSX hk hb1 hb2
  cases b1 with
  | true =>
    rw [Bool.true_or, if_pos rfl]
    go_enter Try.func50, Try.ntmps50
    go_upto_region 1 with fail
    rw [← HW2.out.1, ← HW2.out.2]
    go_upto_region 3 with (first | (refine wpList_load_row rfl 37 (.tmp 4) rfl (q + 1) rfl 37 _ (0, 0) _ HB2.out Try.underlying37 rfl HIX.out.1 ?_) | (refine wpList_store_box rfl 37 (.tmp 8) _ rfl w2 _ CX 37 rfl rfl rfl HIX.out.1 (by rw [HIX.out.2.1]; rfl) HIX.out.2.2 ?_; intro w3 hb3 k3; have HM3 : Hid (MB w3 q g8 CS CX CX) := Lib.hid ⟨k3.same HB1.out (fun x => x), k3.same HB2.out (fun x => x), k3.same HB3.out (fun x => x), by rw [HG8.out]; exact hb3, HLT.out⟩; have HK3 := Lib.hid (HK2.out.trans k3); clear hb3 k3))
    rw [← HG8.out]
    have p2 : w3.cell? ⟨q + 1, 2, none⟩ = some (.int .i64 5) := cell_rowZ 2 _ HM3.out.bx (by rw [HCX.out, ← HKI.out]; rfl)
    have s4 : w3.cell? ⟨q, 4, none⟩ = some (.int .u64 s.re) := cell_rowZ 4 _ HM3.out.bs (by rw [HCS.out]; rfl)
    have s5 : w3.cell? ⟨q, 5, none⟩ = some (.int .u64 s.im) := cell_rowZ 5 _ HM3.out.bs (by rw [HCS.out]; rfl)
    have p8 : w3.cell? ⟨q + 1, 8, none⟩ = some (.int .u64 x.re) := cell_rowZ 8 _ HM3.out.bx (by rw [HCX.out]; rfl)
    have p9 : w3.cell? ⟨q + 1, 9, none⟩ = some (.int .u64 x.im) := cell_rowZ 9 _ HM3.out.bx (by rw [HCX.out]; rfl)
    go_upto_region 10 with (go_at_call 71; refine (HCA.out _).mono ?_; rintro e w4 ⟨rfl, n, hn⟩; have k4 : Kept (fun _ => False) w3 w4 := (by rw [hn]; exact (Kept.refl _ _).drewN n); have HM4 := Lib.hid (HM3.out.on k4); have HK4 := Lib.hid (HK3.out.trans k4); clear hn k4; have c8 : w4.cell? ⟨g8, 8, none⟩ = some (.int .u64 x.re) := cell_rowZ 8 _ HM4.out.b8 (by rw [HCX.out]; rfl); have f8 := free_of_rowZ 8 HM4.out.b8; have c9 : w4.cell? ⟨g8, 9, none⟩ = some (.int .u64 x.im) := cell_rowZ 9 _ HM4.out.b8 (by rw [HCX.out]; rfl); have f9 := free_of_rowZ 9 HM4.out.b8)
    clear s4 s5 p8 p9 p2
    obtain ⟨w5, hw5⟩ : ∃ w', w' = (w4.setCell ⟨g8, 8, none⟩ (.int .u64 re)).setCell ⟨g8, 9, none⟩ (.int .u64 im) := ⟨_, rfl⟩
    have h5 := HM4.out.put 8 (.int .u64 re) (SX' := CX.setIfInBounds 8 (.int .u64 re)) rfl
    have h5' := h5.1.put 9 (.int .u64 im) (SX' := SX) (by rw [HSX.out, HCX.out]; rfl)
    rw [← hw5] at h5'
    have HM5 := Lib.hid h5'.1
    have HK5 := Lib.hid ((HK4.out.newer h5.2 (fun i e => by have := HLT.out; have := HW2.out.2; omega)).newer h5'.2 (fun i e => by have := HLT.out; have := HW2.out.2; omega))
    rw [← hw5]
    clear hw5 h5 h5' c8 f8 c9 f9
    have c8 : w5.cell? ⟨g8, 8, none⟩ = some (.int .u64 re) := cell_rowZ 8 _ HM5.out.b8 (by rw [HSX.out]; rfl)
    have c9 : w5.cell? ⟨g8, 9, none⟩ = some (.int .u64 im) := cell_rowZ 9 _ HM5.out.b8 (by rw [HSX.out]; rfl)
    obtain ⟨iU, hiU, hzU0, hzU1, hzU2⟩ := info_parts Try.infoU64
    go_upto_region 13 with (first | (go_at_call 72; clear c8 c9; refine (HF2.out _ _ (urow_new _ [re, im])).mono ?_; rintro e w7 ⟨rfl, k7⟩; have k57 : Kept (fun _ => False) w5 w7 := (((Kept.refl _ _).alloc _).trans k7); have HM7 := Lib.hid (HM5.out.on k57); have HK7 := Lib.hid (HK5.out.trans k57); clear k7 k57))
    clear hiU hzU0 hzU1 hzU2
    have c5' : w7.cell? ⟨g8, 5, none⟩ = some (.int .i64 x.start) := cell_rowZ 5 _ HM7.out.b8 (by rw [HSX.out]; rfl)
    have f5' := free_of_rowZ 5 HM7.out.b8
    have s1' : w7.cell? ⟨q, 1, none⟩ = some (.int .i64 s.start) := cell_rowZ 1 _ HM7.out.bs (by rw [HCS.out]; rfl)
    go_upto_region 17 with fail
    obtain ⟨wE, hwE⟩ : ∃ w', w' = w7.setCell ⟨g8, 5, none⟩ (.int .i64 s.start) := ⟨_, rfl⟩
    obtain ⟨NX, hNX⟩ : ∃ a, a = pntC { x with re := re, im := im, start := s.start } av pv nv := ⟨_, rfl⟩
    have hE := HM7.out.put 5 (.int .i64 s.start) (SX' := NX) (by rw [hNX, HSX.out]; rfl)
    rw [← hwE] at hE
    have HME := Lib.hid hE.1
    have HKE := Lib.hid (HK7.out.newer hE.2 (fun i e => by have := HLT.out; have := HW2.out.2; omega))
    have HIN : Hid ((Try.prog.info? 37).map (·.size) = some NX.size ∧ (#[.string { data := #[] }, .slice none 0 0, .int .i64 0, .int .i64 0, .bool false, .int .i64 0, .int .i64 0, .int .i64 0, .int .u64 0, .int .u64 0, .int .i64 0, .int .u64 0, .int .i64 0, .slice none 0 0, .int .i64 0, .slice none 0 0, .int .i64 0] : Array Value).size = NX.size ∧ NX.all (·.oneCell') = true) := Lib.hid (by rw [hNX]; exact ⟨point_info, rfl, pntC_one' HAW.out⟩)
    have HNX := Lib.hid hNX
    rw [← hwE]
    clear hwE hE hNX c5' f5' s1'
    go_wp2_with (first
      | (refine wpList_load_row rfl 37 (.tmp 8) rfl g8 rfl 37 _ (0, 0) _ HME.out.b8 Try.underlying37 rfl HIN.out.1 ?_)
      | (refine wpList_store_row rfl 37 (.tmp 6) _ rfl (q + 1 + 1) NX rfl rfl 37 _ HME.out.bz HIN.out.1 HIN.out.2.1 HIN.out.2.2 ?_)
      | fail)
    refine bodyPost_ret (results_cell_row Try.results50 _ _ (q + 1 + 1) 37 _ (0, 0) _ rfl (setRow_heap _ _ _ _ _ _ HME.out.bz) Try.underlying37 rfl HIN.out.1) rfl ?_
    have kF := HKE.out.newer (setRow_keptW wE (q + 1 + 1) NX) (fun i e => by have := HW2.out.2; omega)
    obtain ⟨wF, hwF⟩ : ∃ w', w' = wE.setRow (q + 1 + 1) NX := ⟨_, rfl⟩
    rw [← hwF] at kF ⊢
    refine ⟨_, rfl, ?_, kF⟩
    rw [HNX.out, HVS.out.1, HVS.out.2.1, HVS.out.2.2]
    exact GotP.parts (y := { x with re := re, im := im, start := s.start }) (HNA.out.on kF) ⟨rfl, rfl⟩
  | false =>
    rw [Bool.false_or]
    cases b2 with
    | true =>
      rw [Bool.not_true, if_neg (by decide)]
      go_enter Try.func50, Try.ntmps50
      go_upto_region 1 with fail
      rw [← HW2.out.1, ← HW2.out.2]
      go_upto_region 3 with (first | (refine wpList_load_row rfl 37 (.tmp 4) rfl (q + 1) rfl 37 _ (0, 0) _ HB2.out Try.underlying37 rfl HIX.out.1 ?_) | (refine wpList_store_box rfl 37 (.tmp 8) _ rfl w2 _ CX 37 rfl rfl rfl HIX.out.1 (by rw [HIX.out.2.1]; rfl) HIX.out.2.2 ?_; intro w3 hb3 k3; have HM3 : Hid (MB w3 q g8 CS CX CX) := Lib.hid ⟨k3.same HB1.out (fun x => x), k3.same HB2.out (fun x => x), k3.same HB3.out (fun x => x), by rw [HG8.out]; exact hb3, HLT.out⟩; have HK3 := Lib.hid (HK2.out.trans k3); clear hb3 k3))
      rw [← HG8.out]
      have p2 : w3.cell? ⟨q + 1, 2, none⟩ = some (.int .i64 5) := cell_rowZ 2 _ HM3.out.bx (by rw [HCX.out, ← HKI.out]; rfl)
      have s4 : w3.cell? ⟨q, 4, none⟩ = some (.int .u64 s.re) := cell_rowZ 4 _ HM3.out.bs (by rw [HCS.out]; rfl)
      have s5 : w3.cell? ⟨q, 5, none⟩ = some (.int .u64 s.im) := cell_rowZ 5 _ HM3.out.bs (by rw [HCS.out]; rfl)
      have p8 : w3.cell? ⟨q + 1, 8, none⟩ = some (.int .u64 x.re) := cell_rowZ 8 _ HM3.out.bx (by rw [HCX.out]; rfl)
      have p9 : w3.cell? ⟨q + 1, 9, none⟩ = some (.int .u64 x.im) := cell_rowZ 9 _ HM3.out.bx (by rw [HCX.out]; rfl)
      go_upto_region 10 with (go_at_call 71; refine (HCA.out _).mono ?_; rintro e w4 ⟨rfl, n, hn⟩; have k4 : Kept (fun _ => False) w3 w4 := (by rw [hn]; exact (Kept.refl _ _).drewN n); have HM4 := Lib.hid (HM3.out.on k4); have HK4 := Lib.hid (HK3.out.trans k4); clear hn k4; have c8 : w4.cell? ⟨g8, 8, none⟩ = some (.int .u64 x.re) := cell_rowZ 8 _ HM4.out.b8 (by rw [HCX.out]; rfl); have f8 := free_of_rowZ 8 HM4.out.b8; have c9 : w4.cell? ⟨g8, 9, none⟩ = some (.int .u64 x.im) := cell_rowZ 9 _ HM4.out.b8 (by rw [HCX.out]; rfl); have f9 := free_of_rowZ 9 HM4.out.b8)
      clear s4 s5 p8 p9 p2
      obtain ⟨w5, hw5⟩ : ∃ w', w' = (w4.setCell ⟨g8, 8, none⟩ (.int .u64 re)).setCell ⟨g8, 9, none⟩ (.int .u64 im) := ⟨_, rfl⟩
      have h5 := HM4.out.put 8 (.int .u64 re) (SX' := CX.setIfInBounds 8 (.int .u64 re)) rfl
      have h5' := h5.1.put 9 (.int .u64 im) (SX' := SX) (by rw [HSX.out, HCX.out]; rfl)
      rw [← hw5] at h5'
      have HM5 := Lib.hid h5'.1
      have HK5 := Lib.hid ((HK4.out.newer h5.2 (fun i e => by have := HLT.out; have := HW2.out.2; omega)).newer h5'.2 (fun i e => by have := HLT.out; have := HW2.out.2; omega))
      rw [← hw5]
      clear hw5 h5 h5' c8 f8 c9 f9
      have c8 : w5.cell? ⟨g8, 8, none⟩ = some (.int .u64 re) := cell_rowZ 8 _ HM5.out.b8 (by rw [HSX.out]; rfl)
      have c9 : w5.cell? ⟨g8, 9, none⟩ = some (.int .u64 im) := cell_rowZ 9 _ HM5.out.b8 (by rw [HSX.out]; rfl)
      obtain ⟨iU, hiU, hzU0, hzU1, hzU2⟩ := info_parts Try.infoU64
      go_upto_region 13 with (first | (go_at_call 72; clear c8 c9; refine (HF2.out _ _ (urow_new _ [re, im])).mono ?_; rintro e w7 ⟨rfl, k7⟩; have k57 : Kept (fun _ => False) w5 w7 := (((Kept.refl _ _).alloc _).trans k7); have HM7 := Lib.hid (HM5.out.on k57); have HK7 := Lib.hid (HK5.out.trans k57); clear k7 k57; have s4 : w7.cell? ⟨q, 4, none⟩ = some (.int .u64 s.re) := cell_rowZ 4 _ HM7.out.bs (by rw [HCS.out]; rfl); have s5 : w7.cell? ⟨q, 5, none⟩ = some (.int .u64 s.im) := cell_rowZ 5 _ HM7.out.bs (by rw [HCS.out]; rfl); have p8 : w7.cell? ⟨q + 1, 8, none⟩ = some (.int .u64 x.re) := cell_rowZ 8 _ HM7.out.bx (by rw [HCX.out]; rfl); have p9 : w7.cell? ⟨q + 1, 9, none⟩ = some (.int .u64 x.im) := cell_rowZ 9 _ HM7.out.bx (by rw [HCX.out]; rfl)) | (go_at_call 72; clear s4 s5 p8 p9; refine (HF4.out _ _ (urow_new _ [s.re, s.im, x.re, x.im])).mono ?_; rintro e w9 ⟨rfl, k9⟩; have k79 : Kept (fun _ => False) w7 w9 := (((Kept.refl _ _).alloc _).trans k9); have HM9 := Lib.hid (HM7.out.on k79); have HK9 := Lib.hid (HK7.out.trans k79); clear k9 k79))
      clear hiU hzU0 hzU1 hzU2
      have c16' : w9.cell? ⟨q + 1, 16, none⟩ = some (.int .i64 x.flags) := cell_rowZ 16 _ HM9.out.bx (by rw [HCX.out]; rfl)
      have f16' := free_of_rowZ 16 HM9.out.bx
      go_upto_region 15 with fail
      obtain ⟨wE, hwE⟩ : ∃ w', w' = w9.setCell ⟨q + 1, 16, none⟩ (.int .i64 16) := ⟨_, rfl⟩
      obtain ⟨NX, hNX⟩ : ∃ a, a = pntC { x with flags := 16 } av pv nv := ⟨_, rfl⟩
      have hE := HM9.out.putX 16 (.int .i64 16) (CX' := NX) (by rw [hNX, HCX.out]; rfl)
      rw [← hwE] at hE
      have HME := Lib.hid hE.1
      have HKE := Lib.hid (HK9.out.newer hE.2 (fun i e => by have := HW2.out.2; omega))
      have HIN : Hid ((Try.prog.info? 37).map (·.size) = some NX.size ∧ (#[.string { data := #[] }, .slice none 0 0, .int .i64 0, .int .i64 0, .bool false, .int .i64 0, .int .i64 0, .int .i64 0, .int .u64 0, .int .u64 0, .int .i64 0, .int .u64 0, .int .i64 0, .slice none 0 0, .int .i64 0, .slice none 0 0, .int .i64 0] : Array Value).size = NX.size ∧ NX.all (·.oneCell') = true) := Lib.hid (by rw [hNX]; exact ⟨point_info, rfl, pntC_one' HAV.out⟩)
      have HNX := Lib.hid hNX
      rw [← hwE]
      clear hwE hE hNX c16' f16'
      go_wp2_with (first
        | (refine wpList_load_row rfl 37 (.tmp 4) rfl (q + 1) rfl 37 _ (0, 0) _ HME.out.bx Try.underlying37 rfl HIN.out.1 ?_)
        | (refine wpList_store_row rfl 37 (.tmp 6) _ rfl (q + 1 + 1) NX rfl rfl 37 _ HME.out.bz HIN.out.1 HIN.out.2.1 HIN.out.2.2 ?_)
        | fail)
      refine bodyPost_ret (results_cell_row Try.results50 _ _ (q + 1 + 1) 37 _ (0, 0) _ rfl (setRow_heap _ _ _ _ _ _ HME.out.bz) Try.underlying37 rfl HIN.out.1) rfl ?_
      have kF := HKE.out.newer (setRow_keptW wE (q + 1 + 1) NX) (fun i e => by have := HW2.out.2; omega)
      obtain ⟨wF, hwF⟩ : ∃ w', w' = wE.setRow (q + 1 + 1) NX := ⟨_, rfl⟩
      rw [← hwF] at kF ⊢
      refine ⟨_, rfl, ?_, kF⟩
      rw [HNX.out, HVS.out.1, HVS.out.2.1, HVS.out.2.2]
      exact GotP.parts (y := { x with flags := 16 }) (HNA.out.on kF) ⟨rfl, rfl⟩
    | false =>
      rw [Bool.not_false, if_pos rfl]
      go_enter Try.func50, Try.ntmps50
      go_upto_region 1 with fail
      rw [← HW2.out.1, ← HW2.out.2]
      go_upto_region 3 with (first | (refine wpList_load_row rfl 37 (.tmp 4) rfl (q + 1) rfl 37 _ (0, 0) _ HB2.out Try.underlying37 rfl HIX.out.1 ?_) | (refine wpList_store_box rfl 37 (.tmp 8) _ rfl w2 _ CX 37 rfl rfl rfl HIX.out.1 (by rw [HIX.out.2.1]; rfl) HIX.out.2.2 ?_; intro w3 hb3 k3; have HM3 : Hid (MB w3 q g8 CS CX CX) := Lib.hid ⟨k3.same HB1.out (fun x => x), k3.same HB2.out (fun x => x), k3.same HB3.out (fun x => x), by rw [HG8.out]; exact hb3, HLT.out⟩; have HK3 := Lib.hid (HK2.out.trans k3); clear hb3 k3))
      rw [← HG8.out]
      have p2 : w3.cell? ⟨q + 1, 2, none⟩ = some (.int .i64 5) := cell_rowZ 2 _ HM3.out.bx (by rw [HCX.out, ← HKI.out]; rfl)
      have s4 : w3.cell? ⟨q, 4, none⟩ = some (.int .u64 s.re) := cell_rowZ 4 _ HM3.out.bs (by rw [HCS.out]; rfl)
      have s5 : w3.cell? ⟨q, 5, none⟩ = some (.int .u64 s.im) := cell_rowZ 5 _ HM3.out.bs (by rw [HCS.out]; rfl)
      have p8 : w3.cell? ⟨q + 1, 8, none⟩ = some (.int .u64 x.re) := cell_rowZ 8 _ HM3.out.bx (by rw [HCX.out]; rfl)
      have p9 : w3.cell? ⟨q + 1, 9, none⟩ = some (.int .u64 x.im) := cell_rowZ 9 _ HM3.out.bx (by rw [HCX.out]; rfl)
      go_upto_region 10 with (go_at_call 71; refine (HCA.out _).mono ?_; rintro e w4 ⟨rfl, n, hn⟩; have k4 : Kept (fun _ => False) w3 w4 := (by rw [hn]; exact (Kept.refl _ _).drewN n); have HM4 := Lib.hid (HM3.out.on k4); have HK4 := Lib.hid (HK3.out.trans k4); clear hn k4; have c8 : w4.cell? ⟨g8, 8, none⟩ = some (.int .u64 x.re) := cell_rowZ 8 _ HM4.out.b8 (by rw [HCX.out]; rfl); have f8 := free_of_rowZ 8 HM4.out.b8; have c9 : w4.cell? ⟨g8, 9, none⟩ = some (.int .u64 x.im) := cell_rowZ 9 _ HM4.out.b8 (by rw [HCX.out]; rfl); have f9 := free_of_rowZ 9 HM4.out.b8)
      clear s4 s5 p8 p9 p2
      obtain ⟨w5, hw5⟩ : ∃ w', w' = (w4.setCell ⟨g8, 8, none⟩ (.int .u64 re)).setCell ⟨g8, 9, none⟩ (.int .u64 im) := ⟨_, rfl⟩
      have h5 := HM4.out.put 8 (.int .u64 re) (SX' := CX.setIfInBounds 8 (.int .u64 re)) rfl
      have h5' := h5.1.put 9 (.int .u64 im) (SX' := SX) (by rw [HSX.out, HCX.out]; rfl)
      rw [← hw5] at h5'
      have HM5 := Lib.hid h5'.1
      have HK5 := Lib.hid ((HK4.out.newer h5.2 (fun i e => by have := HLT.out; have := HW2.out.2; omega)).newer h5'.2 (fun i e => by have := HLT.out; have := HW2.out.2; omega))
      rw [← hw5]
      clear hw5 h5 h5' c8 f8 c9 f9
      have c8 : w5.cell? ⟨g8, 8, none⟩ = some (.int .u64 re) := cell_rowZ 8 _ HM5.out.b8 (by rw [HSX.out]; rfl)
      have c9 : w5.cell? ⟨g8, 9, none⟩ = some (.int .u64 im) := cell_rowZ 9 _ HM5.out.b8 (by rw [HSX.out]; rfl)
      obtain ⟨iU, hiU, hzU0, hzU1, hzU2⟩ := info_parts Try.infoU64
      go_upto_region 13 with (first | (go_at_call 72; clear c8 c9; refine (HF2.out _ _ (urow_new _ [re, im])).mono ?_; rintro e w7 ⟨rfl, k7⟩; have k57 : Kept (fun _ => False) w5 w7 := (((Kept.refl _ _).alloc _).trans k7); have HM7 := Lib.hid (HM5.out.on k57); have HK7 := Lib.hid (HK5.out.trans k57); clear k7 k57; have s4 : w7.cell? ⟨q, 4, none⟩ = some (.int .u64 s.re) := cell_rowZ 4 _ HM7.out.bs (by rw [HCS.out]; rfl); have s5 : w7.cell? ⟨q, 5, none⟩ = some (.int .u64 s.im) := cell_rowZ 5 _ HM7.out.bs (by rw [HCS.out]; rfl); have p8 : w7.cell? ⟨q + 1, 8, none⟩ = some (.int .u64 x.re) := cell_rowZ 8 _ HM7.out.bx (by rw [HCX.out]; rfl); have p9 : w7.cell? ⟨q + 1, 9, none⟩ = some (.int .u64 x.im) := cell_rowZ 9 _ HM7.out.bx (by rw [HCX.out]; rfl)) | (go_at_call 72; clear s4 s5 p8 p9; refine (HF4.out _ _ (urow_new _ [s.re, s.im, x.re, x.im])).mono ?_; rintro e w9 ⟨rfl, k9⟩; have k79 : Kept (fun _ => False) w7 w9 := (((Kept.refl _ _).alloc _).trans k9); have HM9 := Lib.hid (HM7.out.on k79); have HK9 := Lib.hid (HK7.out.trans k79); clear k9 k79))
      clear hiU hzU0 hzU1 hzU2
      have c5' : w9.cell? ⟨g8, 5, none⟩ = some (.int .i64 x.start) := cell_rowZ 5 _ HM9.out.b8 (by rw [HSX.out]; rfl)
      have f5' := free_of_rowZ 5 HM9.out.b8
      have s1' : w9.cell? ⟨q, 1, none⟩ = some (.int .i64 s.start) := cell_rowZ 1 _ HM9.out.bs (by rw [HCS.out]; rfl)
      go_upto_region 17 with fail
      obtain ⟨wE, hwE⟩ : ∃ w', w' = w9.setCell ⟨g8, 5, none⟩ (.int .i64 s.start) := ⟨_, rfl⟩
      obtain ⟨NX, hNX⟩ : ∃ a, a = pntC { x with re := re, im := im, start := s.start } av pv nv := ⟨_, rfl⟩
      have hE := HM9.out.put 5 (.int .i64 s.start) (SX' := NX) (by rw [hNX, HSX.out]; rfl)
      rw [← hwE] at hE
      have HME := Lib.hid hE.1
      have HKE := Lib.hid (HK9.out.newer hE.2 (fun i e => by have := HLT.out; have := HW2.out.2; omega))
      have HIN : Hid ((Try.prog.info? 37).map (·.size) = some NX.size ∧ (#[.string { data := #[] }, .slice none 0 0, .int .i64 0, .int .i64 0, .bool false, .int .i64 0, .int .i64 0, .int .i64 0, .int .u64 0, .int .u64 0, .int .i64 0, .int .u64 0, .int .i64 0, .slice none 0 0, .int .i64 0, .slice none 0 0, .int .i64 0] : Array Value).size = NX.size ∧ NX.all (·.oneCell') = true) := Lib.hid (by rw [hNX]; exact ⟨point_info, rfl, pntC_one' HAW.out⟩)
      have HNX := Lib.hid hNX
      rw [← hwE]
      clear hwE hE hNX c5' f5' s1'
      go_wp2_with (first
        | (refine wpList_load_row rfl 37 (.tmp 8) rfl g8 rfl 37 _ (0, 0) _ HME.out.b8 Try.underlying37 rfl HIN.out.1 ?_)
        | (refine wpList_store_row rfl 37 (.tmp 6) _ rfl (q + 1 + 1) NX rfl rfl 37 _ HME.out.bz HIN.out.1 HIN.out.2.1 HIN.out.2.2 ?_)
        | fail)
      refine bodyPost_ret (results_cell_row Try.results50 _ _ (q + 1 + 1) 37 _ (0, 0) _ rfl (setRow_heap _ _ _ _ _ _ HME.out.bz) Try.underlying37 rfl HIN.out.1) rfl ?_
      have kF := HKE.out.newer (setRow_keptW wE (q + 1 + 1) NX) (fun i e => by have := HW2.out.2; omega)
      obtain ⟨wF, hwF⟩ : ∃ w', w' = wE.setRow (q + 1 + 1) NX := ⟨_, rfl⟩
      rw [← hwF] at kF ⊢
      refine ⟨_, rfl, ?_, kF⟩
      rw [HNX.out, HVS.out.1, HVS.out.2.1, HVS.out.2.2]
      exact GotP.parts (y := { x with re := re, im := im, start := s.start }) (HNA.out.on kF) ⟨rfl, rfl⟩
end Go.Proofs.Ytiiibhdohlpodaa

