/- Layer 10: awake. -/
import Derived.Test.YtjpnfadmblmjbaaDoorZ7
import Derived.Test.YtjpnfadmblmjbaaDoorVX
namespace Go.Proofs.YtjpnfadmblmjbaaDoor
open Go.RowKit
attribute [local go_sem ↓] Go.wp_at_zero Go.wp_at_succ

theorem slAt_nil (w : World) : SlAt w (.slice none 0 0) [] := (Mine.nil w 28).at_
theorem histAt_zero (w : World) (sc : Int) : HistAt w ⟨sc, 0, 0, [], 0, []⟩ (.slice none 0 0) (.slice none 0 0) := ⟨slAt_nil w, slAt_nil w⟩
theorem zero_ok (sc : Int) (h : -100 ≤ sc ∧ sc ≤ 100) : HistV.ok ⟨sc, 0, 0, [], 0, []⟩ := by
  refine ⟨⟨?_, ?_⟩, ?_, ⟨?_, ?_⟩, ?_, ⟨?_, ?_⟩, ?_⟩ <;> dsimp only <;> first | omega | simp
theorem aw10_e0 : HistV.err zeroH = 0 := by decide
theorem aw10_e1 : HistV.err ⟨99, 0, 0, [], 0, []⟩ = 1 := by decide
theorem aw10_l1 : (([] : List Bool) ++ nextH 0 zeroH zeroH).length = 24 := by decide +kernel
theorem aw10_l2 : (([] : List Bool) ++ nextH 0 zeroH zeroH ++ nextH 1 zeroH zeroH).length = 27 := by decide +kernel
theorem aw10_p2 : strN (packB (([] : List Bool) ++ nextH 0 zeroH zeroH ++ nextH 1 zeroH zeroH)) = ⟨#[40, 0, 0, 128]⟩ := by decide +kernel
/-- An empty histogram is put. -/
theorem hput_zero (W w : World) (p r n : Nat) (v gp gn : Value) (bs : List Bool) (sc : Int) (e : Nat) (X : HB W w p r v bs n zeroH gp gn) (hB0 : 0 < W.heap.size) (hn : n ≤ 100000) (hl : bs.length ≤ 50000000) (HT : ClassTab W) (hs : -100 ≤ sc ∧ sc ≤ 100) (he : HistV.err ⟨sc, 0, 0, [], 0, []⟩ = e) :
    Calls Tryd.prog 39 #[.pointer (some ⟨r, 0, none⟩), .pointer (some ⟨p, 0, none⟩), .agg #[.int .i64 sc, .int .u64 0, .int .i64 0, .slice none 0 0, .int .i64 0, .slice none 0 0]] w fun u w' => u = .returned (.int .i64 (e : Int)) ∧ ((e ≠ 0 ∧ Kept (fun _ => False) w w') ∨ (e = 0 ∧ PutTo W w w' p r v (bs ++ nextH n zeroH ⟨sc, 0, 0, [], 0, []⟩) (n + 1) ⟨sc, 0, 0, [], 0, []⟩)) := by
  have := hput_any W w p r n v gp gn (.slice none 0 0) (.slice none 0 0) bs zeroH ⟨sc, 0, 0, [], 0, []⟩ X (histAt_zero w sc) (fun k _ => ⟨fun e => absurd rfl e, fun e => absurd rfl e⟩) (zero_ok sc hs) hB0 hn hl (Nat.zero_le _) (Nat.zero_le _) (Nat.zero_le _) (Nat.zero_le _) HT
  rw [he] at this
  exact this

set_option maxHeartbeats 4000000 in
set_option maxRecDepth 100000 in
theorem awake10_any (w : World) (HT : ClassTab w) (hB0 : 0 < w.heap.size) :
    Calls Tryd.prog 34 #[] w fun e w' => e = .returned (.bool true) ∧ Kept (fun _ => False) w w' := by
  have HTT := Lib.hid HT
  have HB0 := Lib.hid hB0
  clear HT hB0
  go_enter Tryd.func34, Tryd.ntmps34
  go_wp2_with fail
  refine (bnew_any w).mono ?_
  rintro e w1 ⟨rfl, hw1⟩
  have H0 := bnew_at w.heap.size w (Nat.le_refl _)
  rw [← hw1] at H0
  have K1 : Kept (fun _ => False) w w1 := by rw [hw1]; exact (Kept.refl _ _).alloc _
  clear hw1
  go_wp2_with fail
  refine (hnewRow_any w1).mono ?_
  rintro e w2 ⟨rfl, hr, K2⟩
  have HH : HB w w2 w.heap.size w1.heap.size (.slice none 0 0) [] 0 zeroH (.slice none 0 0) (.slice none 0 0) := ⟨H0.keptF K2, hr, Mine.nil' _ (K1.trans K2), Mine.nil' _ (K1.trans K2), K1.size⟩
  obtain ⟨r, hr1⟩ : ∃ r, r = w1.heap.size := ⟨_, rfl⟩
  obtain ⟨p, hp1⟩ : ∃ p, p = w.heap.size := ⟨_, rfl⟩
  have HH' : HB w w2 p r (.slice none 0 0) [] 0 zeroH (.slice none 0 0) (.slice none 0 0) := by rw [hp1, hr1]; exact HH
  rw [← hr1, ← hp1]
  have HX0 := Lib.hid HH'
  clear hr K1 K2 H0 hr1 hp1 HH HH'
  go_wp2_with fail
  refine (hput_zero w w2 p r 0 _ _ _ [] 0 0 HX0.out HB0.out (by omega) (by simp) HTT.out (by omega) aw10_e0).mono ?_
  rintro e w3 ⟨rfl, hq⟩
  obtain ⟨v3, p3, n3, h3, _, _⟩ : PutTo w w2 w3 p r (.slice none 0 0) ([] ++ nextH 0 zeroH zeroH) (0 + 1) zeroH := by
    rcases hq with ⟨h, _⟩ | ⟨_, h⟩
    · exact absurd rfl h
    · exact h
  have HX1 := Lib.hid h3
  have hlen := bwlen_any _ _ _ _ _ h3.bw
  rw [aw10_l1] at hlen
  have HL1 := Lib.hid hlen
  clear hq h3 hlen
  go_wp2_with fail
  refine HL1.out.mono ?_
  rintro e w' ⟨rfl, rfl⟩
  go_wp2_with fail
  refine (hput_zero w w3 p r 1 _ _ _ _ 0 0 HX1.out HB0.out (by omega) (by rw [aw10_l1]; omega) HTT.out (by omega) aw10_e0).mono ?_
  rintro e w4 ⟨rfl, hq⟩
  obtain ⟨v4, p4, n4, h4, _, _⟩ : PutTo w w3 w4 p r v3 ([] ++ nextH 0 zeroH zeroH ++ nextH 1 zeroH zeroH) (1 + 1) zeroH := by
    rcases hq with ⟨h, _⟩ | ⟨_, h⟩
    · exact absurd rfl h
    · exact h
  have HX2 := Lib.hid h4
  have hlen := bwlen_any _ _ _ _ _ h4.bw
  rw [aw10_l2] at hlen
  have HL2 := Lib.hid hlen
  have HN2 := Lib.hid (hlen_any _ _ _ _ _ _ h4.row)
  have hby := bytesStr w _ _ _ _ h4.bw (by rw [aw10_l2]; omega)
  rw [aw10_p2] at hby
  have HB2 := Lib.hid hby
  clear hq h4 hlen hby
  go_wp2_with fail
  refine HL2.out.mono ?_
  rintro e w' ⟨rfl, rfl⟩
  go_wp2_with fail
  refine HN2.out.mono ?_
  rintro e w' ⟨rfl, rfl⟩
  go_wp2_with fail
  refine HB2.out.mono ?_
  rintro e w5 ⟨vb, rfl, hcv, hk⟩
  have hcv5 := hcv w5 (Kept.refl _ _)
  have HX3 := Lib.hid (HX2.out.on hk)
  clear hcv hk
  go_wp2_with fail
  refine (hput_zero w w5 p r 2 _ _ _ _ 99 1 HX3.out HB0.out (by omega) (by rw [aw10_l2]; omega) HTT.out (by omega) aw10_e1).mono ?_
  rintro e w6 ⟨rfl, hq⟩
  have hk : Kept (fun _ => False) w5 w6 := by
    rcases hq with ⟨_, h⟩ | ⟨h, _⟩
    · exact h
    · exact absurd h (by decide)
  have HK6 := Lib.hid (HX3.out.mp.kept.trans hk)
  clear hq hk hcv5
  go_wp2
  go_ret
  exact ⟨rfl, HK6.out⟩
end Go.Proofs.YtjpnfadmblmjbaaDoor
