/- The document's answer for hist: Down, where nothing is wrong: the beginning. -/
import Derived.Test.YtbjpcddnjndjlaaJ6
import Derived.Test.YtbjpcddnjndjlaaG2
namespace Go.Proofs.Ytbjpcddnjndjlaa
open Go.RowKit
attribute [local go_sem ↓] Go.wp_at_zero Go.wp_at_succ

theorem trim_right {o : Int} {l : List Nat} (h : sideE o l = 0) : TrimOf o l o l := by
  obtain ⟨h1, h2, h3⟩ := sideE_zero h
  by_cases hz : l.length = 0
  · have hl : l = [] := List.eq_nil_of_length_eq_zero hz
    exact .inl ⟨fun j hj => by omega, h2 hz, hl⟩
  · obtain ⟨a, b, _⟩ := h3 hz
    exact .inr ⟨0, l.length, by omega, Nat.le_refl _, fun j hj => by omega, fun j h1 h2 => by omega, a, b, by simp, by simp⟩
/-- A histogram in a new block, its counts in new slices. -/
structure DownAt (w w0 wr : World) (p : Nat) (R : HistV) (pv nv : Value) : Prop where
  box : HistBox wr p R pv nv
  new : w0.heap.size ≤ p
  mp : Mine w wr 22 pv (uvals R.pl)
  mn : Mine w wr 22 nv (uvals R.nl)
  dis : ∀ k, pv.ownBlock = some k → nv.ownBlock ≠ some k
  kept : Kept (fun _ => False) w0 wr
theorem DownAt.on {w w0 wr w' : World} {p : Nat} {R : HistV} {pv nv : Value} (h : DownAt w w0 wr p R pv nv) (k : Kept (fun _ => False) wr w') : DownAt w w0 w' p R pv nv :=
  ⟨h.box.same k (fun x => x), h.new, h.mp.on k, h.mn.on k, h.dis, h.kept.trans k⟩
/-- What two calls answer is stored. -/
theorem DownAt.made {w w0 wa w3 w4 : World} {p : Nat} {R0 : HistV} {pv0 nv0 pv nv : Value} (sc : Int) (ze : Nat) (po no : Int) (pl nl : List Nat) (hbox : HistBox w4 p R0 pv0 nv0) (hnew : w0.heap.size ≤ p) (hw : Kept (fun _ => False) w w0) (ha : Kept (fun _ => False) w0 wa) (h3 : Mine wa w3 22 pv (uvals pl)) (wb : World) (hb : Kept (fun _ => False) w3 wb) (h4 : Mine wb w4 22 nv (uvals nl)) :
    DownAt w w0 (set6 w4 p (.int .i64 sc) (.int .u64 (ze : Int)) (.int .i64 po) pv (.int .i64 no) nv) p ⟨sc, ze, po, pl, no, nl⟩ pv nv := by
  refine ⟨hbox.set ⟨sc, ze, po, pl, no, nl⟩ pv nv, hnew, ?_, ?_, ?_, ?_⟩
  · exact ((h3.down (hw.trans ha)).on (hb.trans h4.kept)).set6 hbox (Nat.le_trans hw.size hnew) _ _ _ _ _ _
  · exact (h4.down (((hw.trans ha).trans h3.kept).trans hb)).set6 hbox (Nat.le_trans hw.size hnew) _ _ _ _ _ _
  · intro k e1 e2
    have h1 := (ownsRow_lt h3.own e1).1
    have h2 := (ownsRow_lt h4.own e2).2
    have h5 := hb.size
    omega
  · exact (((ha.trans h3.kept).trans hb).trans h4.kept).newer (set6_kept _ _ _ _ _ _ _ _) (fun i e => by omega)
/-- What two calls answer is put into a new variable. -/
theorem DownAt.fresh {w w0 wa w3 w4 : World} {pv nv : Value} (sc : Int) (ze : Nat) (po no : Int) (pl nl : List Nat) (hw : Kept (fun _ => False) w w0) (ha : Kept (fun _ => False) w0 wa) (h3 : Mine wa w3 22 pv (uvals pl)) (h4 : Mine w3 w4 22 nv (uvals nl)) :
    DownAt w w0 (w4.alloc (.cells #[.int .i64 sc, .int .u64 (ze : Int), .int .i64 po, pv, .int .i64 no, nv] 27)) w4.heap.size ⟨sc, ze, po, pl, no, nl⟩ pv nv := by
  have hk := (ha.trans h3.kept).trans h4.kept
  refine ⟨heap_alloc_new w4 _, hk.size, ?_, ?_, ?_, hk.alloc _⟩
  · exact ((h3.down (hw.trans ha)).on h4.kept).alloc _
  · exact (h4.down ((hw.trans ha).trans h3.kept)).alloc _
  · intro k e1 e2
    have h1 := (ownsRow_lt h3.own e1).1
    have h2 := (ownsRow_lt h4.own e2).2
    omega
theorem DownAt.slices {w w0 wr : World} {p : Nat} {R : HistV} {pv nv : Value} (h : DownAt w w0 wr p R pv nv) : (∃ a c, pv = .slice a R.pl.length c) ∧ ∃ a c, nv = .slice a R.nl.length c := by
  obtain ⟨a, c, e⟩ := h.mp.slice
  obtain ⟨a', c', e'⟩ := h.mn.slice
  rw [uvals_length] at e e'
  exact ⟨⟨a, c, e⟩, a', c', e'⟩
theorem hist_alloc (w : World) : HistBox (w.alloc (.cells #[.int .i64 0, .int .u64 0, .int .i64 0, .slice none 0 0, .int .i64 0, .slice none 0 0] 27)) w.heap.size zeroH (.slice none 0 0) (.slice none 0 0) := heap_alloc_new w _
theorem Kept.step6 {w0 w : World} (h : Kept (fun _ => False) w0 w) (p : Nat) (a b c d e f : Value) (hp : w0.heap.size ≤ p) : Kept (fun _ => False) w0 (set6 w p a b c d e f) := h.newer (set6_kept _ _ _ _ _ _ _ _) (fun i e => by omega)

set_option maxHeartbeats 4000000 in
set_option maxRecDepth 100000 in
theorem refDown_ok (sc : Int) (ze : Nat) (po : Int) (pl : List Nat) (no : Int) (nl : List Nat) (b : Nat) (ao bo : Option Addr) (c d : Nat) (w w0 : World) (k0 : Kept (fun _ => False) w w0)
    (hw0 : w0 = (w.alloc (.cells #[.int .i64 sc, .int .u64 (ze : Int), .int .i64 po, .slice ao pl.length c, .int .i64 no, .slice bo nl.length d] 27)).alloc (.cells #[.int .i64 0, .int .u64 0, .int .i64 0, .slice none 0 0, .int .i64 0, .slice none 0 0] 27))
    (bx : HistBox w0 w.heap.size ⟨sc, ze, po, pl, no, nl⟩ (.slice ao pl.length c) (.slice bo nl.length d)) (rx : HistBox w0 (w.heap.size + 1) zeroH (.slice none 0 0) (.slice none 0 0))
    (hE : Calls Try.prog 17 #[.agg #[.int .i64 sc, .int .u64 (ze : Int), .int .i64 po, .slice ao pl.length c, .int .i64 no, .slice bo nl.length d]] w0 fun e w' => e = .returned (.int .i64 0) ∧ Kept (fun _ => False) w0 w')
    (HT1 : Hid (∀ w', Kept (fun _ => False) w0 w' → Calls Try.prog 21 #[.agg #[.int .i64 po, .slice ao pl.length c]] w' (SideOut w' fun o' l' => o' = po ∧ l' = pl)))
    (HT2 : Hid (∀ w', Kept (fun _ => False) w0 w' → Calls Try.prog 21 #[.agg #[.int .i64 no, .slice bo nl.length d]] w' (SideOut w' fun o' l' => o' = no ∧ l' = nl)))
    (HN1 : Hid (∀ (k : Nat) w' v, k ≤ 40 → SlAt w' v (uvals (downL po pl k)) → Calls Try.prog 43 #[.agg #[.int .i64 (downO po pl k), v]] w' (SideOut w' fun o' l' => o' = downO po pl (k + 1) ∧ l' = downL po pl (k + 1))))
    (HN2 : Hid (∀ (k : Nat) w' v, k ≤ 40 → SlAt w' v (uvals (downL no nl k)) → Calls Try.prog 43 #[.agg #[.int .i64 (downO no nl k), v]] w' (SideOut w' fun o' l' => o' = downO no nl (k + 1) ∧ l' = downL no nl (k + 1))))
    (HZ : Hid (downO po pl 0 = po ∧ downL po pl 0 = pl ∧ downO no nl 0 = no ∧ downL no nl 0 = nl))
    (hb : (b : Int) ≤ sc + 10) (hsc : -10 ≤ sc ∧ sc ≤ 20) (R : HistV) (hR : R = ⟨sc - (b : Int), ze, downO po pl b, downL po pl b, downO no nl b, downL no nl b⟩) :
    Calls Try.prog 23 #[.agg #[.int .i64 sc, .int .u64 (ze : Int), .int .i64 po, .slice ao pl.length c, .int .i64 no, .slice bo nl.length d], .int .i64 b] w (HistOut w R 0) := by
  have HK0 := Lib.hid k0
  have HBX := Lib.hid bx
  have HRX := Lib.hid rx
  have HW0 := Lib.hid hw0
  rw [hw0] at hE
  have HC := Lib.hid hE
  have q : ((0 : Int) != 0) = false := rfl
  have b1 : ¬ (b : Int) < 0 := by omega
  have sc1 : IntKind.i64.wrap (sc - -10) = sc + 10 := by rw [IntWalk.i64_in _ ⟨by omega, by omega⟩]; omega
  have sc2 : sc - -10 = sc + 10 := by omega
  have sc3 : IntKind.i64.wrap (sc + 10) = sc + 10 := IntWalk.i64_in _ ⟨by omega, by omega⟩
  have hb2 : ¬ sc + 10 < (b : Int) := by omega
  have HR := Lib.hid hR
  clear k0 bx rx hw0 hE hR
  go_enter Try.func23, Try.ntmps23
  go_wp2_with (go_at_call 17; refine HC.out.mono ?_; rintro e w1 ⟨rfl, k1⟩; rw [← HW0.out] at k1; have K1 := Lib.hid k1; obtain ⟨c0, c1, c2, c3, c4, c5⟩ := (HBX.out.same k1 (fun x => x)).c; clear k1)
  have HKD := Lib.hid (show Kept (fun _ => False) w0 w1.drew from K1.out.drew)
  have HC1 := Lib.hid (HBX.out.same HKD.out (fun x => x)).c
  have hka : Kept (fun _ => False) w0 ((w1.alloc (.cells #[.int .i64 0, .int .u64 0, .int .i64 0, .slice none 0 0, .int .i64 0, .slice none 0 0] 27)).drew) := (K1.out.alloc _).drew
  have HKA := Lib.hid hka
  have HPA := Lib.hid ((hist_alloc w1).same ((Kept.refl (fun _ => False) _).drew) (fun x => x))
  have HCA := Lib.hid (HBX.out.same HKA.out (fun x => x)).c
  clear hka
  go_cut [7] (fun s7 wc => ∃ p pv nv, s7 = .pointer (some ⟨p, 0, none⟩) ∧ DownAt w w0 wc p ⟨sc, ze, po, pl, no, nl⟩ pv nv)
  case first =>
    go_region_held3 (fun w' => w'.cell? ⟨w.heap.size, 0, none⟩ = some (.int .i64 sc) ∧ w'.cell? ⟨w.heap.size, 1, none⟩ = some (.int .u64 (ze : Int)) ∧ w'.cell? ⟨w.heap.size, 2, none⟩ = some (.int .i64 po) ∧ w'.cell? ⟨w.heap.size, 3, none⟩ = some (.slice ao pl.length c) ∧ w'.cell? ⟨w.heap.size, 4, none⟩ = some (.int .i64 no) ∧ w'.cell? ⟨w.heap.size, 5, none⟩ = some (.slice bo nl.length d)) (first | (with_reducible exact HC1.out) | (with_reducible exact HB3.out) | (with_reducible exact HB4.out) | (with_reducible exact HCA.out) | (have _tok := HP4.out; exact (HBX.out.same ((Go.Proofs.Ytbjpcddnjndjlaa.Kept.step6 HK4.out (w1.heap.size) _ _ _ _ _ _ (by have := K1.out.size; omega))) (fun x => x)).c) | (have _tok := HP4b.out; exact (HBX.out.same ((Go.Proofs.Ytbjpcddnjndjlaa.Kept.step6 HK4.out (w3.heap.size) _ _ _ _ _ _ HK3.out.size)) (fun x => x)).c) | (exact (HBX.out.same (HK4.out.alloc _) (fun x => x)).c) | (exact (HBX.out.same (HK3.out.alloc _) (fun x => x)).c) | (trace "S"; trace_state; fail))
      (first
        | (have _tok := HP3.out; go_at_call 21; refine (HT2.out w3 HK3.out).mono ?_; rintro e w4 ⟨o4, l4, v4, hh4, rfl, hm4⟩; have HH4 := Lib.hid hh4; clear hh4; obtain ⟨a4, q4, rfl⟩ := hm4.slice; have HM4 := Lib.hid hm4; have HK4 := Lib.hid (HK3.out.trans hm4.kept); have HB4 := Lib.hid (HBX.out.same HK4.out (fun x => x)).c; have hp4 := HP3.out.same hm4.kept (fun x => x); have HP4 := Lib.hid hp4; obtain ⟨r0, r1, r2, r3, r4, r5⟩ := hp4.c; obtain ⟨f0, f1, f2, f3, f4, f5⟩ := hp4.f; clear hm4 hp4)
        | (have _tok := HK3.out; go_at_call 21; refine (HT2.out w3 HK3.out).mono ?_; rintro e w4 ⟨o4, l4, v4, hh4, rfl, hm4⟩; have HH4 := Lib.hid hh4; clear hh4; obtain ⟨a4, q4, rfl⟩ := hm4.slice; have HM4 := Lib.hid hm4; have HK4 := Lib.hid (HK3.out.trans hm4.kept); have HB4 := Lib.hid (HBX.out.same HK4.out (fun x => x)).c; clear hm4)
        | (have _tok := HK3.out; go_at_call 21; refine (HT2.out (w3.alloc (.cells #[.int .i64 0, .int .u64 0, .int .i64 0, .slice none 0 0, .int .i64 0, .slice none 0 0] 27)) (HK3.out.alloc _)).mono ?_; rintro e w4 ⟨o4, l4, v4, hh4, rfl, hm4⟩; have HH4 := Lib.hid hh4; clear hh4; obtain ⟨a4, q4, rfl⟩ := hm4.slice; have HM4 := Lib.hid hm4; have HK4 := Lib.hid ((HK3.out.alloc _).trans hm4.kept); have HB4 := Lib.hid (HBX.out.same HK4.out (fun x => x)).c; have hp4 := HistBox.same (hist_alloc w3) hm4.kept (fun x => x); have HP4b := Lib.hid hp4; obtain ⟨r0, r1, r2, r3, r4, r5⟩ := hp4.c; obtain ⟨f0, f1, f2, f3, f4, f5⟩ := hp4.f; clear hm4 hp4)
        | (go_at_call 21; refine (HT1.out w1.drew HKD.out).mono ?_; rintro e w3 ⟨o3, l3, v3, hh3, rfl, hm3⟩; have HH3 := Lib.hid hh3; clear hh3; obtain ⟨a3, q3, rfl⟩ := hm3.slice; have HM3 := Lib.hid hm3; have HK3 := Lib.hid (HKD.out.trans hm3.kept); have HB3 := Lib.hid (HBX.out.same HK3.out (fun x => x)).c; clear hm3)
        | (go_at_call 21; refine (HT1.out ((w1.alloc (.cells #[.int .i64 0, .int .u64 0, .int .i64 0, .slice none 0 0, .int .i64 0, .slice none 0 0] 27)).drew) HKA.out).mono ?_; rintro e w3 ⟨o3, l3, v3, hh3, rfl, hm3⟩; have HH3 := Lib.hid hh3; clear hh3; obtain ⟨a3, q3, rfl⟩ := hm3.slice; have HM3 := Lib.hid hm3; have HK3 := Lib.hid (HKA.out.trans hm3.kept); have HB3 := Lib.hid (HBX.out.same HK3.out (fun x => x)).c; have hp3 := HPA.out.same hm3.kept (fun x => x); have HP3 := Lib.hid hp3; clear hm3 hp3)
        | (go_at_call 21; trace "NO ARM"; trace_state; fail))
    all_goals
      obtain ⟨e1, e2⟩ := HH3.out
      obtain ⟨e3, e4⟩ := HH4.out
      subst e1 e2 e3 e4
      go_wp2
      go_meet
      case rel =>
        first
          | (have _tok := HP4.out; exact ⟨_, _, _, rfl, DownAt.made sc ze _ _ _ _ HP4.out K1.out.size HK0.out HKA.out HM3.out w3 (Kept.refl _ _) HM4.out⟩)
          | (have _tok := HP4b.out; exact ⟨_, _, _, rfl, DownAt.made sc ze _ _ _ _ HP4b.out HK3.out.size HK0.out HKD.out HM3.out (w3.alloc (.cells #[.int .i64 0, .int .u64 0, .int .i64 0, .slice none 0 0, .int .i64 0, .slice none 0 0] 27)) ((Kept.refl _ _).alloc _) HM4.out⟩)
          | exact ⟨_, _, _, rfl, DownAt.fresh sc ze _ _ _ _ HK0.out HKD.out HM3.out HM4.out⟩
  case rest =>
    obtain ⟨p, pv, nv, rfl, hat⟩ := hcut
    have HAT := Lib.hid hat
    clear hat HT1 HT2 HC1 HCA HPA HKA HKD K1 HC c0 c1 c2 c3 c4 c5
    go_wp2
    go_loopg [8, 36, 37, 38, 39, 40, 41, 42, 43, 44, 45, 46, 47, 48, 49, 50, 51, 52] b (fun g' s8 s36 s37 s38 s39 s40 s41 s42 s43 s44 s45 s46 s47 s48 s49 s50 s51 s52 wr => ∃ (k : Nat) (pv nv : Value), k ≤ b ∧ g' = b - k ∧ s8 = .int .i64 k ∧ DownAt w w0 wr p ⟨sc - (k : Int), ze, downO po pl k, downL po pl k, downO no nl k, downL no nl k⟩ pv nv)
    case atStart => exact ⟨0, _, _, Nat.zero_le _, rfl, rfl, by rw [HZ.out.1, HZ.out.2.1, HZ.out.2.2.1, HZ.out.2.2.2]; simpa using HAT.out⟩
    case round =>
      obtain ⟨k, pv, nv, hkb, rfl, rfl, hat⟩ := hrel
      obtain ⟨⟨a1, q1, rfl⟩, a2, q2, rfl⟩ := hat.slices
      by_cases hd : k < b
      · have hdi : (k : Int) < (b : Int) := by omega
        have HD := Lib.hid hd
        have hx1 := fun w' => HN1.out k w' (.slice a1 (downL po pl k).length q1) (by omega)
        have hx2 := fun w' => HN2.out k w' (.slice a2 (downL no nl k).length q2) (by omega)
        have s1 : IntKind.i64.wrap (sc - (k : Int) - 1) = sc - (k : Int) - 1 := IntWalk.i64_in _ ⟨by omega, by omega⟩
        simp only at hat
        obtain ⟨O1, hO1⟩ : ∃ O, O = downO po pl k := ⟨_, rfl⟩
        obtain ⟨O2, hO2⟩ : ∃ O, O = downO no nl k := ⟨_, rfl⟩
        obtain ⟨L1, hL1⟩ : ∃ L, L = downL po pl k := ⟨_, rfl⟩
        obtain ⟨L2, hL2⟩ : ∃ L, L = downL no nl k := ⟨_, rfl⟩
        rw [← hO1, ← hO2, ← hL1, ← hL2] at hat
        rw [← hO1, ← hL1] at hx1
        rw [← hO2, ← hL2] at hx2
        obtain ⟨n1, hn1⟩ : ∃ n, n = L1.length := ⟨_, rfl⟩
        obtain ⟨n2, hn2⟩ : ∃ n, n = L2.length := ⟨_, rfl⟩
        rw [← hn1, ← hn2] at hat
        rw [← hn1] at hx1
        rw [← hn2] at hx2
        have HX1 := Lib.hid hx1
        have HX2 := Lib.hid hx2
        have HDD := Lib.hid (hat.on (Kept.refl _ wr).drew)
        have HS := Lib.hid HDD.out.box.c
        clear hx1 hx2 hat hO1 hO2 hL1 hL2 hn1 hn2 hd
        go_wp2
        refine AnyBut.start (S := fun w' => w'.cell? ⟨p, 0, none⟩ = some (.int .i64 (sc - (k : Int))) ∧ w'.cell? ⟨p, 1, none⟩ = some (.int .u64 (ze : Int)) ∧ w'.cell? ⟨p, 2, none⟩ = some (.int .i64 O1) ∧ w'.cell? ⟨p, 3, none⟩ = some (.slice a1 n1 q1) ∧ w'.cell? ⟨p, 4, none⟩ = some (.int .i64 O2) ∧ w'.cell? ⟨p, 5, none⟩ = some (.slice a2 n2 q2)) (k := 12) (by kernel_rfl) ?_
        refine AnyBut.take (i := 0) (v := ?v0) rfl (by kernel_rfl) (by kernel_rfl) (by kernel_rfl) (by kernel_rfl) (fun _ _ _ h => h) (HS.out) (Or.inl ⟨by rfl, ?hy0⟩) ?r0
        case hy0 =>
          intro w hSw
          try dsimp only at hSw
          go_simp
          try with_reducible rfl
        try simp only [Act.put, List.setIfInBounds_toArray]
        refine AnyBut.take (i := 1) (v := ?v1) rfl (by kernel_rfl) (by kernel_rfl) (by kernel_rfl) (by kernel_rfl) (fun _ _ _ h => h) (HS.out) (Or.inl ⟨by rfl, ?hy1⟩) ?r1
        case hy1 =>
          intro w hSw
          try dsimp only at hSw
          go_simp
          try with_reducible rfl
        try simp only [Act.put]
        refine AnyBut.take (i := 2) (v := ?v2) rfl (by kernel_rfl) (by kernel_rfl) (by kernel_rfl) (by kernel_rfl) (fun _ _ _ h => h) (HS.out) (Or.inl ⟨by rfl, ?hy2⟩) ?r2
        case hy2 =>
          intro w hSw
          try dsimp only at hSw
          go_simp
          try with_reducible rfl
        try simp only [Act.put]
        refine AnyBut.take (i := 3) (v := ?v3) rfl (by kernel_rfl) (by kernel_rfl) (by kernel_rfl) (by kernel_rfl) (fun _ _ _ h => h) (HS.out) (Or.inl ⟨by rfl, ?hy3⟩) ?r3
        case hy3 =>
          intro w hSw
          try dsimp only at hSw
          go_simp
          try with_reducible rfl
        try simp only [Act.put]
        refine AnyBut.take (i := 4) (v := ?v4) rfl (by kernel_rfl) (by kernel_rfl) (by kernel_rfl) (by kernel_rfl) (fun _ _ _ h => h) (HS.out) (Or.inl ⟨by rfl, ?hy4⟩) ?r4
        case hy4 =>
          intro w hSw
          try dsimp only at hSw
          go_simp
          try with_reducible rfl
        try simp only [Act.put]
        refine AnyBut.take (i := 5) (v := ?v5) rfl (by kernel_rfl) (by kernel_rfl) (by kernel_rfl) (by kernel_rfl) (fun _ _ _ h => h) (HS.out) (Or.inl ⟨by rfl, ?hy5⟩) ?r5
        case hy5 =>
          intro w hSw
          try dsimp only at hSw
          go_simp
          try with_reducible rfl
        try simp only [Act.put]
        refine AnyBut.take (i := 6) (v := ?v6) rfl (by kernel_rfl) (by kernel_rfl) (by kernel_rfl) (by kernel_rfl) (fun _ _ _ h => h) (HS.out) (Or.inl ⟨by rfl, ?hy6⟩) ?r6
        case hy6 =>
          intro w hSw
          try dsimp only at hSw
          go_simp
          try with_reducible rfl
        try simp only [Act.put]
        refine AnyBut.take (i := 8) (v := ?v8) rfl (by kernel_rfl) (by kernel_rfl) (by kernel_rfl) (by kernel_rfl) (fun _ _ _ h => h) (HS.out) (Or.inl ⟨by rfl, ?hy8⟩) ?r8
        case hy8 =>
          intro w hSw
          try dsimp only at hSw
          go_simp
          try with_reducible rfl
        try simp only [Act.put]
        refine AnyBut.take (i := 9) (v := ?v9) rfl (by kernel_rfl) (by kernel_rfl) (by kernel_rfl) (by kernel_rfl) (fun _ _ _ h => h) (HS.out) (Or.inl ⟨by rfl, ?hy9⟩) ?r9
        case hy9 =>
          intro w hSw
          try dsimp only at hSw
          go_simp
          try with_reducible rfl
        try simp only [Act.put]
        refine AnyBut.one (i := 7) (by kernel_rfl) rfl (fun K hK => ?_)
        go_simp
        go_wp2_with (go_at_call 43; refine (HX1.out _ HDD.out.mp.at_).mono ?_; rintro e w3 ⟨o3, l3, v3, hh3, rfl, hm3⟩; have HH3 := Lib.hid hh3; clear hh3; obtain ⟨a3, q3, rfl⟩ := hm3.slice; have HM3 := Lib.hid hm3; have HD3 := Lib.hid (HDD.out.on hm3.kept); have HS3 := Lib.hid HD3.out.box.c; clear hm3)
        refine hK.out _ _ (HS3.out) ?_
        clear hK K
        try simp only [Act.put, List.setIfInBounds_toArray, List.set_cons_zero, List.set_cons_succ]
        refine AnyBut.one (i := 10) (by kernel_rfl) rfl (fun K hK => ?_)
        go_simp
        go_wp2_with (go_at_call 43; refine (HX2.out _ HD3.out.mn.at_).mono ?_; rintro e w4 ⟨o4, l4, v4, hh4, rfl, hm4⟩; have HH4 := Lib.hid hh4; clear hh4; obtain ⟨a4, q4, rfl⟩ := hm4.slice; have HM4 := Lib.hid hm4; have HD4 := Lib.hid (HD3.out.on hm4.kept); have HS4 := Lib.hid HD4.out.box.c; have hf4 := HD4.out.box.f; obtain ⟨f0, f1, f2, f3, f4, f5⟩ := hf4; obtain ⟨r0, r1, r2, r3, r4, r5⟩ := HS4.out; clear hm4)
        refine hK.out _ _ (HS4.out) ?_
        clear hK K
        try simp only [Act.put, List.setIfInBounds_toArray, List.set_cons_zero, List.set_cons_succ]
        refine AnyBut.take (i := 11) (v := ?v11) rfl (by kernel_rfl) (by kernel_rfl) (by kernel_rfl) (by kernel_rfl) (fun _ _ _ h => h) (HS4.out) (Or.inl ⟨by rfl, ?hy11⟩) ?r11
        case hy11 =>
          intro w hSw
          try dsimp only at hSw
          go_simp
          try with_reducible rfl
        try simp only [Act.put, List.setIfInBounds_toArray]
        refine AnyBut.last (by kernel_rfl) rfl (by kernel_rfl) (fun K hK => ?_)
        go_simp
        refine hK.out _ _ ?_
        clear hK K
        try simp only [Act.put, List.setIfInBounds_toArray, List.set_cons_zero, List.set_cons_succ]
        go_wp2
        obtain ⟨e1, e2⟩ := HH3.out
        obtain ⟨e3, e4⟩ := HH4.out
        have HF := Lib.hid (DownAt.made (sc - (k : Int) - 1) ze o3 o4 l3 l4 HD4.out.box HD4.out.new HK0.out HDD.out.kept HM3.out w3 (Kept.refl _ _) HM4.out)
        have HE := Lib.hid (show (⟨sc - (k : Int) - 1, ze, o3, l3, o4, l4⟩ : HistV) = ⟨sc - ((k + 1 : Nat) : Int), ze, downO po pl (k + 1), downL po pl (k + 1), downO no nl (k + 1), downL no nl (k + 1)⟩ by rw [e1, e2, e3, e4, show sc - (k : Int) - 1 = sc - ((k + 1 : Nat) : Int) by omega])
        clear e1 e2 e3 e4
        go_roundg (b - (k + 1))
        case measure => have := HD.out; omega
        case rel => exact ⟨k + 1, _, _, HD.out, rfl, by go_num, by rw [← HE.out]; exact HF.out⟩
      · obtain rfl : k = b := by omega
        simp only at hat
        obtain ⟨O1, hO1⟩ : ∃ O, O = downO po pl k := ⟨_, rfl⟩
        obtain ⟨O2, hO2⟩ : ∃ O, O = downO no nl k := ⟨_, rfl⟩
        obtain ⟨L1, hL1⟩ : ∃ L, L = downL po pl k := ⟨_, rfl⟩
        obtain ⟨L2, hL2⟩ : ∃ L, L = downL no nl k := ⟨_, rfl⟩
        rw [← hO1, ← hO2, ← hL1, ← hL2] at hat HR
        obtain ⟨n1, hn1⟩ : ∃ n, n = L1.length := ⟨_, rfl⟩
        obtain ⟨n2, hn2⟩ : ∃ n, n = L2.length := ⟨_, rfl⟩
        rw [← hn1, ← hn2] at hat
        obtain ⟨r0, r1, r2, r3, r4, r5⟩ := (HRX.out.same hat.kept (fun x => x)).c
        obtain ⟨f0, f1, f2, f3, f4, f5⟩ := (HRX.out.same hat.kept (fun x => x)).f
        have HB := Lib.hid (HRX.out.same hat.kept (fun x => x))
        obtain ⟨c0, c1, c2, c3, c4, c5⟩ := hat.box.c
        have HA := Lib.hid hat
        clear hat hd hO1 hO2 hL1 hL2 hn1 hn2
        go_wp2
        refine hist_end (h := R) (pv := .slice a1 n1 q1) (nv := .slice a2 n2 q2) Try.results23 rfl rfl rfl (by rw [HR.out]; exact HB.out.set ⟨sc - (k : Int), ze, O1, L1, O2, L2⟩ _ _) ?_
        refine ⟨_, _, rfl, ?_, ?_, HA.out.dis⟩
        · rw [HR.out]; exact HA.out.mp.set6 HB.out (by omega) _ _ _ _ _ _
        · rw [HR.out]; exact HA.out.mn.set6 HB.out (by omega) _ _ _ _ _ _
end Go.Proofs.Ytbjpcddnjndjlaa
