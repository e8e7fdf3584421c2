/- Texts put together: X3, SOh. -/
import Derived.Test.YtficodklidaheaaDoorZz14
import Derived.Test.YtficodklidaheaaDoorZz26
import Derived.Test.YtficodklidaheaaDoorZz10
import Derived.Test.YtficodklidaheaaDoorZz19
/- Layer 25: the document's Open (written by tools/gen_XX3.py). -/
namespace Go.Proofs.YtficodklidaheaaDoor
open Go.RowKit
attribute [local go_sem ↓] Go.wp_at_zero Go.wp_at_succ

theorem got25_info : (Tryd.prog.info? 92).map (·.size) = some 3 := by kernel_rfl
/-- What the document's Open answers and leaves. -/
def RefOpenTo (w : World) (rb : Nat) (ao : Option Addr) (L : List RF) (r : DA × Option Int × Int) (e : Ending) (w' : World) : Prop :=
  ∃ ao' cp' L', e = .returned (.agg #[.int .i64 (r.2.1.getD 0), .bool false, .int .i64 r.2.2]) ∧ RK w' rb ao' cp' L' r.1 ∧ Kept (fun k => k = rb) w w' ∧ RFoot w rb ao L ao' L'
/-- The document's disk behind some calls, and the box of the answer. -/
def R25 (w : World) (q rb : Nat) (ao : Option Addr) (L : List RF) (D : DA) (w' : World) : Prop :=
  ∃ ao' cp' L', RK w' rb ao' cp' L' D ∧ Kept (fun k => k = rb) w w' ∧ RFoot w rb ao L ao' L' ∧ BoxAt w' q 92 #[.int .i64 0, .bool false, .int .i64 0] ∧ (∀ k, rfoot rb ao' L' k → k ≠ q) ∧ w.heap.size ≤ q
theorem R25.answer {w w' : World} {q rb : Nat} {ao : Option Addr} {L : List RF} {D : DA} {o : Option Int} (h : R25 w q rb ao L D w') (x : Int) (z : Int) (ho : o.getD 0 = x) :
    RefOpenTo w rb ao L (D, o, z) (.returned (.agg #[.int .i64 x, .bool false, .int .i64 z])) (((w'.setCell ⟨q, 0, none⟩ (.int .i64 x)).setCell ⟨q, 1, none⟩ (.bool false)).setCell ⟨q, 2, none⟩ (.int .i64 z)) := by
  subst ho
  obtain ⟨a2, c2, L2, h1, h2, h3, h4, h5, h6⟩ := h
  have k : Kept (fun k => k = q) w' (((w'.setCell ⟨q, 0, none⟩ (.int .i64 (o.getD 0))).setCell ⟨q, 1, none⟩ (.bool false)).setCell ⟨q, 2, none⟩ (.int .i64 z)) := ((kept_set _ _ _ _).trans (kept_set _ _ _ _)).trans (kept_set _ _ _ _)
  exact ⟨a2, c2, L2, rfl, h1.kept k (fun j f e => h5 j f e), Kept.newer2 h2 k (fun j e => by rw [e]; exact h6), h3⟩
theorem R25.on {w w1 w2 : World} {q rb : Nat} {ao : Option Addr} {L : List RF} {D : DA} (h : R25 w q rb ao L D w1) (k : Kept (fun _ => False) w1 w2) : R25 w q rb ao L D w2 := by
  obtain ⟨a2, c2, L2, h1, h2, h3, h4, h5, h6⟩ := h
  exact ⟨a2, c2, L2, h1.kept k (fun _ _ x => x), h2.trans (k.mono (fun _ _ x => x.elim)), h3, h4.kept k (fun x => x), h5, h6⟩

set_option maxRecDepth 100000 in
set_option maxHeartbeats 8000000 in
theorem refOpen25_any (rb : Nat) (ao : Option Addr) (cp : Nat) (L : List RF) (D : DA) (w : World) (h : RK w rb ao cp L D) (hbig : (loadD D nmAck).2.1.length ≤ 100000000) :
    Calls Tryd.prog 50 #[.pointer (some ⟨rb, 0, none⟩)] w (RefOpenTo w rb ao L (openSh D)) := by
  obtain ⟨wa, hwa⟩ : ∃ wa, wa = w.alloc (.cells #[.int .i64 0, .bool false, .int .i64 0] 92) := ⟨_, rfl⟩
  have ka : Kept (fun _ => False) w wa := by rw [hwa]; exact (Kept.refl _ _).alloc _
  have HBX : Hid (BoxAt wa w.heap.size 92 #[.int .i64 0, .bool false, .int .i64 0]) := Lib.hid (by rw [hwa]; exact BoxAt.new _ _ _)
  have HA := Lib.hid (h.kept ka (fun _ _ x => x))
  have HLT := Lib.hid (fun k (f : rfoot rb ao L k) => h.lt f)
  have HC := Lib.hid (refLoad_any rb ao cp L D nmAck (by decide) wa HA.out)
  rw [show nmAck = { data := #[97, 99, 107] } from rfl] at HC
  obtain ⟨r, hr⟩ : ∃ r, r = loadD D { data := #[97, 99, 107] } := ⟨_, rfl⟩
  have hbig2 : r.2.1.length ≤ 100000000 := by rw [hr]; exact hbig
  rw [show openSh D = openF r from by rw [hr]; rfl]
  rw [← hr] at HC
  have HW := Lib.hid hwa
  have HKA := Lib.hid ka
  clear hr h hbig hwa ka
  obtain ⟨D', rl, ri, rz⟩ := r
  obtain ⟨rn, hrn⟩ : ∃ rn, rn = rl.length := ⟨_, rfl⟩
  unfold RefLoad at HC
  dsimp only at HC hbig2
  rw [← hrn] at HC
  have HRN := Lib.hid (And.intro hrn hbig2)
  obtain ⟨Q, hQ⟩ : ∃ Q, Q = openF (D', rl, ri, rz) := ⟨_, rfl⟩
  rw [← hQ]
  have HQ := Lib.hid hQ
  clear hrn hbig2 hQ
  go_enter Tryd.func50, Tryd.ntmps50
  go_upto_region 1 with fail
  rw [← HW.out]
  go_wp2_with fail
  refine HC.out.mono ?_
  rintro e w1 ⟨a1, c1, L1, la, lc, rfl, h1, k1, f1, hlr⟩
  have hst : R25 w w.heap.size rb ao L D' w1 := ⟨a1, c1, L1, h1, (HKA.out.mono (fun _ _ x => x.elim)).trans k1, fun k f => by
      rcases f1 k f with x | x
      · exact .inl x
      · exact .inr (Nat.le_trans HKA.out.size x),
    HBX.out.kept k1 (fun e => by have := HLT.out rb (.inl rfl); omega), fun k f e => by
      rcases f1 k f with x | x
      · have := HLT.out k x; omega
      · have := HBX.out.lt; omega, Nat.le_refl _⟩
  obtain ⟨p, hp⟩ : ∃ p, p = w1.heap.size := ⟨_, rfl⟩
  obtain ⟨w2, hw2⟩ : ∃ w2, w2 = w1.alloc (.cells #[.slice la rn lc, .bool ri, .int .i64 rz] 77) := ⟨_, rfl⟩
  have k2 : Kept (fun _ => False) w1 w2 := by rw [hw2]; exact (Kept.refl _ _).alloc _
  have b2 : BoxAt w2 p 77 #[.slice la rn lc, .bool ri, .int .i64 rz] := by rw [hw2, hp]; exact BoxAt.new w1 _ _
  have HS2 := Lib.hid (hst.on k2)
  have HLR := Lib.hid (hlr.kept k2)
  have HB2 := Lib.hid b2
  have HW2 := Lib.hid (And.intro hw2 hp)
  have g0 : w2.cell? ⟨p, 0, none⟩ = some (.slice la rn lc) := b2.cell rfl
  have g1 : w2.cell? ⟨p, 1, none⟩ = some (.bool ri) := b2.cell rfl
  have g2 : w2.cell? ⟨p, 2, none⟩ = some (.int .i64 rz) := b2.cell rfl
  clear h1 k1 f1 hlr hst hp hw2 k2 b2 HC
  go_upto_region 2 with fail
  rw [← HW2.out.1, ← HW2.out.2]
  by_cases hz : rz = 0
  · subst hz
    cases ri with
    | false =>
      have HX : Hid (Q = (D', some 0, 0)) := Lib.hid HQ.out
      have HF := Lib.hid (HS2.out.answer (o := some 0) 0 0 rfl)
      rw [← HX.out] at HF
      obtain ⟨_, _, _, _, _, _, hb3, _⟩ := HS2.out
      have HB0 := Lib.hid hb3
      have HB3 := Lib.hid (three_put (x := .int .i64 0) (y := .bool false) (z := .int .i64 0) hb3)
      have r0 := HB0.out.cell (i := 0) (u := .int .i64 0) rfl
      have r1' := HB0.out.cell (i := 1) (u := .bool false) rfl
      have r2 := HB0.out.cell (i := 2) (u := .int .i64 0) rfl
      have f0 := BoxAt.fz HB0.out 0
      have f1 := BoxAt.fz HB0.out 1
      have f2 := BoxAt.fz HB0.out 2
      clear hb3
      go_wp2
      refine bodyPost_ret (v := .agg #[.int .i64 0, .bool false, .int .i64 0]) ?_ rfl ?_
      · exact results_cell_row Tryd.results50 _ _ w.heap.size 92 _ (0, 0) _ rfl HB3.out Tryd.underlying92 rfl got25_info
      · exact HF.out
    | true =>
      obtain ⟨⟨aa, cc, hsl⟩, hb⟩ := row8_sliceAt (show Row8 w2 (.slice la rn lc) rl from HLR.out)
      rw [← HRN.out.1] at hsl
      have HGF := Lib.hid (getFix_any (.slice la rn lc) aa cc (liN rl) 0 w2 (by rw [liN_length, ← HRN.out.1]; exact hsl) (liN_byte hb) (by rw [liN_length]; have := HRN.out.2; omega) (Nat.zero_le _))
      rw [show (((0 : Nat) : Int)) = 0 from rfl] at HGF
      have hVr := leV_range (liN rl) (liN_byte hb) 8
      obtain ⟨V, hV⟩ : ∃ V, V = leV (liN rl) 8 := ⟨_, rfl⟩
      rw [← hV] at hVr
      have HV := Lib.hid hV
      have hg8 : rn = 8 → getFixF (liN rl) 0 = (V, 8, 0) := fun e => by
        unfold getFixF
        rw [if_neg (by rw [liN_length, ← HRN.out.1]; omega), hV]
        rfl
      obtain ⟨G, hG⟩ : ∃ G, G = getFixF (liN rl) 0 := ⟨_, rfl⟩
      rw [← hG] at hg8 HGF
      obtain ⟨y0, y1, y2⟩ := G
      have HG8 := Lib.hid hg8
      have HVR := Lib.hid hVr
      unfold Got at HGF
      dsimp only at HGF
      clear hsl hb hV hg8 hG hVr
      go_wp2_with fail
      refine HGF.out.mono ?_
      rintro e w3 ⟨rfl, k3⟩
      obtain ⟨p4, hp4⟩ : ∃ p, p = w3.heap.size := ⟨_, rfl⟩
      obtain ⟨w4, hw4⟩ : ∃ w4, w4 = w3.alloc (.cells #[.int .u64 y0, .int .i64 y1, .int .i64 y2] 135) := ⟨_, rfl⟩
      have k4 : Kept (fun _ => False) w3 w4 := by rw [hw4]; exact (Kept.refl _ _).alloc _
      have b4 : BoxAt w4 p4 135 #[.int .u64 y0, .int .i64 y1, .int .i64 y2] := by rw [hw4, hp4]; exact BoxAt.new w3 _ _
      have HS4 := Lib.hid (HS2.out.on (k3.trans k4))
      have b24 := HB2.out.kept (k3.trans k4) (fun x => x)
      clear g0 g1 g2
      have g0 : w4.cell? ⟨p, 0, none⟩ = some (.slice la rn lc) := b24.cell rfl
      have x0 : w4.cell? ⟨p4, 0, none⟩ = some (.int .u64 y0) := b4.cell rfl
      have HW4 := Lib.hid (And.intro hw4 hp4)
      clear k3 hp4 hw4 k4 b4 b24
      go_upto_region 5 with fail
      rw [← HW4.out.1, ← HW4.out.2]
      by_cases h8 : rn = 8
      · obtain ⟨rfl, rfl, rfl⟩ : y0 = V ∧ y1 = 8 ∧ y2 = 0 := by have := HG8.out h8; injection this with a b; injection b with b c; exact ⟨a, by omega, c⟩
        have HR8 := Lib.hid h8
        subst h8
        by_cases hle : y0 ≤ 4503599627370497
        · have hle' : decide (4503599627370497 < y0) = false := decide_eq_false (by omega)
          have wv : IntKind.i64.wrap y0 = y0 := IntWalk.i64_in _ ⟨by have := HVR.out; omega, by omega⟩
          have HX : Hid (Q = (D', some y0, 0)) := Lib.hid (by
            rw [HQ.out]
            show (if (ackF rl).isSome = true then _ else _) = _
            rw [show ackF rl = some y0 from by rw [HV.out]; exact if_pos ⟨HRN.out.1.symm, by rw [← HV.out]; exact hle⟩]
            rfl)
          clear hle
          have HF := Lib.hid (HS4.out.answer (o := some y0) y0 0 rfl)
          rw [← HX.out] at HF
          obtain ⟨_, _, _, _, _, _, hb3, _⟩ := HS4.out
          have HB0 := Lib.hid hb3
          have HB3 := Lib.hid (three_put (x := .int .i64 y0) (y := .bool false) (z := .int .i64 0) hb3)
          have r0 := HB0.out.cell (i := 0) (u := .int .i64 0) rfl
          have r1' := HB0.out.cell (i := 1) (u := .bool false) rfl
          have r2 := HB0.out.cell (i := 2) (u := .int .i64 0) rfl
          have f0 := BoxAt.fz HB0.out 0
          have f1 := BoxAt.fz HB0.out 1
          have f2 := BoxAt.fz HB0.out 2
          clear hb3
          go_wp2
          refine bodyPost_ret (v := .agg #[.int .i64 y0, .bool false, .int .i64 0]) ?_ rfl ?_
          · exact results_cell_row Tryd.results50 _ _ w.heap.size 92 _ (0, 0) _ rfl HB3.out Tryd.underlying92 rfl got25_info
          · exact HF.out
        · have hle' : decide (4503599627370497 < y0) = true := decide_eq_true (by omega)
          have HX : Hid (Q = (D', none, 15)) := Lib.hid (by
            rw [HQ.out]
            show (if (ackF rl).isSome = true then _ else _) = _
            rw [show ackF rl = none from if_neg (fun x => hle (by rw [HV.out]; exact x.2))]
            rfl)
          clear hle
          have HF := Lib.hid (HS4.out.answer (o := none) 0 15 rfl)
          rw [← HX.out] at HF
          obtain ⟨_, _, _, _, _, _, hb3, _⟩ := HS4.out
          have HB0 := Lib.hid hb3
          have HB3 := Lib.hid (three_put (x := .int .i64 0) (y := .bool false) (z := .int .i64 15) hb3)
          have r0 := HB0.out.cell (i := 0) (u := .int .i64 0) rfl
          have r1' := HB0.out.cell (i := 1) (u := .bool false) rfl
          have r2 := HB0.out.cell (i := 2) (u := .int .i64 0) rfl
          have f0 := BoxAt.fz HB0.out 0
          have f1 := BoxAt.fz HB0.out 1
          have f2 := BoxAt.fz HB0.out 2
          clear hb3
          go_wp2
          refine bodyPost_ret (v := .agg #[.int .i64 0, .bool false, .int .i64 15]) ?_ rfl ?_
          · exact results_cell_row Tryd.results50 _ _ w.heap.size 92 _ (0, 0) _ rfl HB3.out Tryd.underlying92 rfl got25_info
          · exact HF.out
      · have q8 : ((rn : Int) != 8) = true := by simp [bne]; omega
        have HX : Hid (Q = (D', none, 15)) := Lib.hid (by
          rw [HQ.out]
          show (if (ackF rl).isSome = true then _ else _) = _
          rw [show ackF rl = none from if_neg (fun x => by have := x.1; have := HRN.out.1; omega)]
          rfl)
        clear h8
        have HF := Lib.hid (HS4.out.answer (o := none) 0 15 rfl)
        rw [← HX.out] at HF
        obtain ⟨_, _, _, _, _, _, hb3, _⟩ := HS4.out
        have HB0 := Lib.hid hb3
        have HB3 := Lib.hid (three_put (x := .int .i64 0) (y := .bool false) (z := .int .i64 15) hb3)
        have r0 := HB0.out.cell (i := 0) (u := .int .i64 0) rfl
        have r1' := HB0.out.cell (i := 1) (u := .bool false) rfl
        have r2 := HB0.out.cell (i := 2) (u := .int .i64 0) rfl
        have f0 := BoxAt.fz HB0.out 0
        have f1 := BoxAt.fz HB0.out 1
        have f2 := BoxAt.fz HB0.out 2
        clear hb3
        go_wp2
        refine bodyPost_ret (v := .agg #[.int .i64 0, .bool false, .int .i64 15]) ?_ rfl ?_
        · exact results_cell_row Tryd.results50 _ _ w.heap.size 92 _ (0, 0) _ rfl HB3.out Tryd.underlying92 rfl got25_info
        · exact HF.out
  · have q0 : (rz != 0) = true := by simp [bne, beq_eq_false_iff_ne.2 hz]
    have HX : Hid (Q = (D', none, rz)) := Lib.hid (by rw [HQ.out]; exact if_pos hz)
    clear hz
    have HF := Lib.hid (HS2.out.answer (o := none) 0 rz rfl)
    rw [← HX.out] at HF
    obtain ⟨_, _, _, _, _, _, hb3, _⟩ := HS2.out
    have HB0 := Lib.hid hb3
    have HB3 := Lib.hid (three_put (x := .int .i64 0) (y := .bool false) (z := .int .i64 rz) hb3)
    have r0 := HB0.out.cell (i := 0) (u := .int .i64 0) rfl
    have r1' := HB0.out.cell (i := 1) (u := .bool false) rfl
    have r2 := HB0.out.cell (i := 2) (u := .int .i64 0) rfl
    have f0 := BoxAt.fz HB0.out 0
    have f1 := BoxAt.fz HB0.out 1
    have f2 := BoxAt.fz HB0.out 2
    clear hb3
    go_wp2
    refine bodyPost_ret (v := .agg #[.int .i64 0, .bool false, .int .i64 rz]) ?_ rfl ?_
    · exact results_cell_row Tryd.results50 _ _ w.heap.size 92 _ (0, 0) _ rfl HB3.out Tryd.underlying92 rfl got25_info
    · exact HF.out
end Go.Proofs.YtficodklidaheaaDoor
/- Layer 18: both disks, side by side. -/
namespace Go.Proofs.YtficodklidaheaaDoor
open Go.RowKit

/-- The program's disk and the document's, neither of which reaches the other. -/
structure Half (W w : World) (db mb : Nat) (L : List (ByteArray × Fi)) (rb : Nat) (ao : Option Addr) (cp : Nat) (LR : List RF) (D D' : DA) : Prop where
  d : DK W.heap.size w db mb L D
  r : RK w rb ao cp LR D'
  sep : ∀ k, foot db mb L k → ¬ rfoot rb ao LR k
  new : W.heap.size ≤ rb
  k : Kept (fun _ => False) W w
section
variable {W w w' : World} {db mb rb cp : Nat} {L : List (ByteArray × Fi)} {ao : Option Addr} {LR : List RF} {D D' : DA}
theorem Half.on (h : Half W w db mb L rb ao cp LR D D') (k : Kept (fun _ => False) w w') : Half W w' db mb L rb ao cp LR D D' :=
  ⟨h.d.kept k (fun _ _ x => x), h.r.kept k (fun _ _ x => x), h.sep, h.new, h.k.trans k⟩
theorem Half.prog {r : DA × Int} {e : Ending} (h : Half W w db mb L rb ao cp LR D D') (t : DTo W.heap.size w db mb L r e w') : ∃ L', e = .returned (.int .i64 r.2) ∧ Half W w' db mb L' rb ao cp LR r.1 D' ∧ Kept (foot db mb L) w w' := by
  obtain ⟨L', h1, h2, h3, h4⟩ := t
  refine ⟨L', h1, ⟨h2, h.r.kept h3 (fun j a b => h.sep j b a), fun k a b => ?_, h.new, h.k.newer h3 (fun j e => (h.d.lt e).2)⟩, h3⟩
  rcases h4 k a with x | x
  · exact h.sep k x b
  · have := h.r.lt b
    omega
theorem Half.doc {r : DA × Int} {e : Ending} (h : Half W w db mb L rb ao cp LR D D') (t : RTo w rb ao LR r e w') : ∃ ao' cp' LR', e = .returned (.int .i64 r.2) ∧ Half W w' db mb L rb ao' cp' LR' D r.1 ∧ Kept (fun k => k = rb) w w' := by
  obtain ⟨ao', cp', LR', h1, h2, h3, h4⟩ := t
  refine ⟨ao', cp', LR', h1, ⟨h.d.kept h3 (fun j a b => h.sep j a (.inl b)), h2, fun k a b => ?_, h.new, h.k.newer h3 (fun j e => by rw [e]; exact h.new)⟩, h3⟩
  rcases h4 k b with x | x
  · exact h.sep k a x
  · have := (h.d.lt a).1
    omega
theorem Half.noRb (h : Half W w db mb L rb ao cp LR D D') : ¬ foot db mb L rb := fun x => h.sep rb x (.inl rfl)
theorem Half.old (h : Half W w db mb L rb ao cp LR D D') {q : Nat} (hq : w.heap.size ≤ q) : ¬ foot db mb L q ∧ q ≠ rb :=
  ⟨fun x => by have := (h.d.lt x).1; omega, fun x => by have := h.r.lt (k := rb) (.inl rfl); omega⟩
end
end Go.Proofs.YtficodklidaheaaDoor
