/- package hist: Down, where nothing is wrong. -/
import Derived.Test.YtbjpcddnjndjlaaH8
namespace Go.Proofs.Ytbjpcddnjndjlaa
open Go.RowKit
attribute [local go_sem ↓] Go.wp_at_zero Go.wp_at_succ

set_option maxHeartbeats 4000000 in
set_option maxRecDepth 100000 in
theorem histDown_ok (sc : Int) (ze : Nat) (po : Int) (pl : List Nat) (no : Int) (nl : List Nat) (b : Nat) (ao bo : Option Addr) (c d : Nat) (w w0 : World) (k0 : Kept (fun _ => False) w w0)
    (hw0 : w0 = (w.alloc (.cells #[.int .i64 sc, .int .u64 (ze : Int), .int .i64 po, .slice ao pl.length c, .int .i64 no, .slice bo nl.length d] 27)).alloc (.cells #[.int .i64 0, .int .u64 0, .int .i64 0, .slice none 0 0, .int .i64 0, .slice none 0 0] 27))
    (bx : HistBox w0 w.heap.size ⟨sc, ze, po, pl, no, nl⟩ (.slice ao pl.length c) (.slice bo nl.length d)) (rx : HistBox w0 (w.heap.size + 1) zeroH (.slice none 0 0) (.slice none 0 0))
    (hE : Calls Try.prog 16 #[.agg #[.int .i64 sc, .int .u64 (ze : Int), .int .i64 po, .slice ao pl.length c, .int .i64 no, .slice bo nl.length d]] w0 fun e w' => e = .returned (.int .i64 0) ∧ Kept (fun _ => False) w0 w')
    (HD1 : Hid (∀ w', Kept (fun _ => False) w0 w' → Calls Try.prog 42 #[.agg #[.int .i64 po, .slice ao pl.length c], .int .i64 b] w' (SideOut w' fun o' l' => o' = downO po pl b ∧ l' = downL po pl b)))
    (HD2 : Hid (∀ w', Kept (fun _ => False) w0 w' → Calls Try.prog 42 #[.agg #[.int .i64 no, .slice bo nl.length d], .int .i64 b] w' (SideOut w' fun o' l' => o' = downO no nl b ∧ l' = downL no nl b)))
    (hb : (b : Int) ≤ sc + 10) (hsc : -10 ≤ sc ∧ sc ≤ 20) (R : HistV) (hR : R = ⟨sc - (b : Int), ze, downO po pl b, downL po pl b, downO no nl b, downL no nl b⟩) :
    Calls Try.prog 22 #[.agg #[.int .i64 sc, .int .u64 (ze : Int), .int .i64 po, .slice ao pl.length c, .int .i64 no, .slice bo nl.length d], .int .i64 b] w (HistOut w R 0) := by
  have HK0 := Lib.hid k0
  have HBX := Lib.hid bx
  have HRX := Lib.hid rx
  have HW0 := Lib.hid hw0
  rw [hw0] at hE
  have HC := Lib.hid hE
  have q : ((0 : Int) != 0) = false := rfl
  have b1 : ¬ (b : Int) < 0 := by omega
  have sc1 : IntKind.i64.wrap (sc - -10) = sc + 10 := by rw [IntWalk.i64_in _ ⟨by omega, by omega⟩]; omega
  have sc2 : sc - -10 = sc + 10 := by omega
  have sc3 : IntKind.i64.wrap (sc + 10) = sc + 10 := IntWalk.i64_in _ ⟨by omega, by omega⟩
  have hb2 : ¬ sc + 10 < (b : Int) := by omega
  have s1 : IntKind.i64.wrap (sc - (b : Int)) = sc - (b : Int) := IntWalk.i64_in _ ⟨by omega, by omega⟩
  have HR := Lib.hid hR
  clear k0 bx rx hw0 hE hR
  go_enter Try.func22, Try.ntmps22
  go_wp2_with (go_at_call 16; refine HC.out.mono ?_; rintro e w1 ⟨rfl, k1⟩; rw [← HW0.out] at k1; have K1 := Lib.hid k1; obtain ⟨c0, c1, c2, c3, c4, c5⟩ := (HBX.out.same k1 (fun x => x)).c; clear k1)
  have kd : Kept (fun _ => False) w0 w1.drew := K1.out.drew
  have HKD := Lib.hid kd
  have HC1 := Lib.hid (HBX.out.same kd (fun x => x)).c

  go_region_held3 (fun w' => w'.cell? ⟨w.heap.size, 0, none⟩ = some (.int .i64 sc) ∧ w'.cell? ⟨w.heap.size, 1, none⟩ = some (.int .u64 (ze : Int)) ∧ w'.cell? ⟨w.heap.size, 2, none⟩ = some (.int .i64 po) ∧ w'.cell? ⟨w.heap.size, 3, none⟩ = some (.slice ao pl.length c) ∧ w'.cell? ⟨w.heap.size, 4, none⟩ = some (.int .i64 no) ∧ w'.cell? ⟨w.heap.size, 5, none⟩ = some (.slice bo nl.length d)) (first | (with_reducible exact HC1.out) | (with_reducible exact HB3.out) | (exact (HistBox.same HB4.out (set6_kept w4 (w.heap.size + 1) (.int .i64 (sc - (b : Int))) (.int .u64 (ze : Int)) (.int .i64 o3) (.slice a3 n3 q3) (.int .i64 o4) (.slice a4 n4 q4)) (by omega)).c))
    (first
      | (have _tok := HK3.out; go_at_call 42; refine (HD2.out _ HK3.out).mono ?_; rintro e w4 ⟨o4, l4, v4, hh4, rfl, hm4⟩; have HH4 := Lib.hid hh4; clear hh4; obtain ⟨a4, q4, rfl⟩ := hm4.slice; obtain ⟨n4, hn4⟩ : ∃ n4, n4 = (uvals l4).length := ⟨_, rfl⟩; rw [← hn4] at hm4 ⊢; have HN4 := Lib.hid hn4; clear hn4; have HM4 := Lib.hid hm4; have kc4 := HK3.out.trans hm4.kept; have HB4 := Lib.hid (HBX.out.same kc4 (fun x => x)); have HB3 := Lib.hid HB4.out.c; have rx4 := HRX.out.same kc4 (fun x => x); have RX4 := Lib.hid rx4; obtain ⟨r0, r1, r2, r3, r4, r5⟩ := rx4.c; obtain ⟨f0, f1, f2, f3, f4, f5⟩ := rx4.f; clear hm4 rx4 kc4)
      | (go_at_call 42; refine (HD1.out _ HKD.out).mono ?_; rintro e w3 ⟨o3, l3, v3, hh3, rfl, hm3⟩; have HH3 := Lib.hid hh3; clear hh3; obtain ⟨a3, q3, rfl⟩ := hm3.slice; obtain ⟨n3, hn3⟩ : ∃ n3, n3 = (uvals l3).length := ⟨_, rfl⟩; rw [← hn3] at hm3 ⊢; have HN3 := Lib.hid hn3; clear hn3; have HM3 := Lib.hid hm3; have HK3 := Lib.hid (HKD.out.trans hm3.kept); have HB3 := Lib.hid (HBX.out.same HK3.out (fun x => x)).c; clear hm3)
      | fail)
  go_wp2
  obtain ⟨rfl, rfl⟩ := HH3.out
  obtain ⟨rfl, rfl⟩ := HH4.out
  obtain rfl := HN3.out
  obtain rfl := HN4.out
  have M3 := Lib.hid (((HM3.out.down (HK0.out.trans HKD.out)).on HM4.out.kept).set6 RX4.out (by omega) (.int .i64 (sc - (b : Int))) (.int .u64 (ze : Int)) (.int .i64 (downO po pl b)) (.slice a3 (uvals (downL po pl b)).length q3) (.int .i64 (downO no nl b)) (.slice a4 (uvals (downL no nl b)).length q4))
  have M4 := Lib.hid ((HM4.out.down (HK0.out.trans HK3.out)).set6 RX4.out (by omega) (.int .i64 (sc - (b : Int))) (.int .u64 (ze : Int)) (.int .i64 (downO po pl b)) (.slice a3 (uvals (downL po pl b)).length q3) (.int .i64 (downO no nl b)) (.slice a4 (uvals (downL no nl b)).length q4))
  have hdis : ∀ k, (Value.slice a3 (uvals (downL po pl b)).length q3).ownBlock = some k → (Value.slice a4 (uvals (downL no nl b)).length q4).ownBlock ≠ some k := fun k e1 e2 => by
    have h1 := (ownsRow_lt HM3.out.own e1).1
    have h2 := (ownsRow_lt HM4.out.own e2).2
    omega
  have HDIS := Lib.hid hdis
  clear hdis
  refine hist_end (h := R) (pv := .slice a3 (uvals (downL po pl b)).length q3) (nv := .slice a4 (uvals (downL no nl b)).length q4) Try.results22 rfl rfl rfl (by rw [HR.out]; exact RX4.out.set ⟨sc - (b : Int), ze, downO po pl b, downL po pl b, downO no nl b, downL no nl b⟩ _ _) ?_
  refine ⟨_, _, rfl, ?_, ?_, HDIS.out⟩
  · rw [HR.out]; exact M3.out
  · rw [HR.out]; exact M4.out
end Go.Proofs.Ytbjpcddnjndjlaa
