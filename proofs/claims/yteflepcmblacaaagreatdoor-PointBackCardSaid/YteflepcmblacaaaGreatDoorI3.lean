/- Layer 12: equality of rows of counts and of pairs, of sides, of histograms (written by tools/gen_XI3.py). -/
import Derived.Test.YteflepcmblacaaaGreatDoorI0
import Derived.Deep.RegionWith
namespace Go.Proofs.YteflepcmblacaaaGreatDoor
open Go.RowKit
attribute [local go_sem ↓] Go.wp_at_zero Go.wp_at_succ

set_option maxRecDepth 100000 in
set_option maxHeartbeats 4000000 in
theorem sEqualU_any (ao bo : Option Addr) (c d : Nat) (l m : List Nat) (w : World) (h1 : SlAt w (.slice ao l.length c) (uvals l)) (h2 : SlAt w (.slice bo m.length d) (uvals m)) (hl : l.length ≤ 1000000) :
    Calls Tryz.prog 86 #[.slice ao l.length c, .slice bo m.length d] w fun e w' => e = .returned (.bool (decide (l = m))) ∧ Kept (fun _ => False) w w' := by
  have HV1 := Lib.hid fun w' (k : Kept (fun _ => False) w w') => h1.kept k (fun _ _ x => x)
  have HV2 := Lib.hid fun w' (k : Kept (fun _ => False) w w') => h2.kept k (fun _ _ x => x)
  obtain ⟨B, hB⟩ : ∃ B, B = decide (l = m) := ⟨_, rfl⟩
  rw [← hB]
  have HB := Lib.hid hB
  obtain ⟨n, hn⟩ : ∃ n, n = l.length := ⟨_, rfl⟩
  obtain ⟨k, hk⟩ : ∃ k, k = m.length := ⟨_, rfl⟩
  have HN := Lib.hid (And.intro hn hk)
  rw [← hn] at hl
  have HL := Lib.hid hl
  rw [← hn, ← hk]
  rw [← hn] at HV1
  rw [← hk] at HV2
  clear h1 h2 hB hl
  by_cases hne : n = k
  · have q : ((n : Int) != (k : Int)) = false := bneF (by omega)
    have q' : (n != k) = false := by simp [hne]
    subst hne
    clear hn hk q q'
    go_enter Tryz.func86, Tryz.ntmps86
    go_wp2
    go_loopg [13] n (fun g s13 wr => ∃ i : Nat, i ≤ n ∧ g = n - i ∧ s13 = .int .i64 i ∧ l.take i = m.take i ∧ Kept (fun _ => False) w wr)
    case atStart => exact ⟨0, Nat.zero_le _, rfl, rfl, rfl, Kept.refl _ _⟩
    case round =>
      obtain ⟨i, hin, rfl, rfl, hsame, hkr⟩ := hrel
      have HSAME := Lib.hid hsame
      by_cases hd : i < n
      · have hdi : (i : Int) < (n : Int) := by omega
        have hdi0 : (0 : Int) ≤ (i : Int) := by omega
        have HD := Lib.hid hd
        have wi : IntKind.i64.wrap ((i : Int) + 1) = ((i + 1 : Nat) : Int) := by have := HL.out; rw [IntWalk.i64_in _ ⟨by omega, by omega⟩]; omega
        have hil : i < l.length := by rw [← HN.out.1]; exact hd
        have him : i < m.length := by rw [← HN.out.2]; exact hd
        obtain ⟨g, off, rfl, c0⟩ := (HV1.out _ hkr).elem (uvals_get hil)
        obtain ⟨g2, off2, rfl, c2⟩ := (HV2.out _ hkr).elem (uvals_get him)
        obtain ⟨x, hx⟩ : ∃ x, x = l.getD i 0 := ⟨_, rfl⟩
        obtain ⟨y, hy⟩ : ∃ y, y = m.getD i 0 := ⟨_, rfl⟩
        rw [← hx] at c0
        rw [← hy] at c2
        have HK : Hid (Kept (fun _ => False) w wr.drew) := Lib.hid hkr.drew
        by_cases hxy : x = y
        · have q3 : ((x : Int) != (y : Int)) = false := bneF (by omega)
          have q3' : (x != y) = false := by simp [hxy]
          have HS2 := Lib.hid (take_same hil him hsame (by rw [← hx, ← hy, hxy]))
          clear hsame hkr hd hin hil him hx hy hxy
          go_upto_region 6 with fail
          go_region
          go_wp2
          go_roundg (n - (i + 1))
          case measure => have := HD.out; omega
          case rel => exact ⟨i + 1, HD.out, rfl, rfl, HS2.out, HK.out⟩
        · have q3 : ((x : Int) != (y : Int)) = true := bneT (by omega)
          have q3' : (x != y) = true := by simp [hxy]
          have HF : Hid (B = false) := Lib.hid (by rw [HB.out]; exact decide_eq_false (fun e => hxy (by rw [hx, hy, e])))
          clear hsame hkr hd hin hil him hx hy hxy
          go_upto_region 6 with fail
          go_region
          go_wp2
          go_ret
          exact ⟨by rw [HF.out]; rfl, HK.out⟩
      · obtain rfl : i = n := by omega
        have hdi : ¬ (i : Int) < (i : Int) := by omega
        have HK := Lib.hid hkr
        have HF : Hid (B = true) := Lib.hid (by rw [HB.out]; refine decide_eq_true ?_; have := HSAME.out; rw [List.take_of_length_le (by rw [← HN.out.1]; omega), List.take_of_length_le (by rw [← HN.out.2]; omega)] at this; exact this)
        clear hd hin hsame hkr
        go_wp2
        go_ret
        exact ⟨by rw [HF.out]; rfl, HK.out⟩
  · have q : ((n : Int) != (k : Int)) = true := bneT (by omega)
    have q' : (n != k) = true := by simp [hne]
    have HF : Hid (B = false) := Lib.hid (by rw [HB.out]; exact decide_eq_false (fun e => hne (by rw [hn, hk, e])))
    clear hne hn hk
    go_enter Tryz.func86, Tryz.ntmps86
    go_wp2
    go_ret
    exact ⟨by rw [HF.out]; rfl, Kept.refl _ _⟩
theorem sameL_len {L M : List Pr} (h : L.length ≠ M.length) : sameL L M = false := decide_eq_false (fun x => h x.1)
theorem sameL_not {L M : List Pr} {i : Nat} (hi : i < L.length) (h : eqP (L.getD i pr0) (M.getD i pr0) = false) : sameL L M = false := decide_eq_false (fun x => by have := x.2 i hi; rw [h] at this; cases this)
set_option maxRecDepth 100000 in
set_option maxHeartbeats 4000000 in
theorem sEqualP_any (ao bo : Option Addr) (c d : Nat) (L M : List Pr) (w : World) (hr : PsAt w ao L) (hs : PsAt w bo M) (hl : L.length ≤ 1000000) :
    Calls Tryz.prog 44 #[.slice ao L.length c, .slice bo M.length d] w fun e w' => e = .returned (.bool (sameL L M)) ∧ Kept (fun _ => False) w w' := by
  have HR := Lib.hid hr
  have HS := Lib.hid hs
  obtain ⟨B, hB⟩ : ∃ B, B = sameL L M := ⟨_, rfl⟩
  rw [← hB]
  have HB := Lib.hid hB
  obtain ⟨n, hn⟩ : ∃ n, n = L.length := ⟨_, rfl⟩
  obtain ⟨k, hk⟩ : ∃ k, k = M.length := ⟨_, rfl⟩
  have HN := Lib.hid (And.intro hn hk)
  rw [← hn] at hl
  have HL := Lib.hid hl
  rw [← hn, ← hk]
  clear hr hs hB hl
  by_cases hne : n = k
  · have q : ((n : Int) != (k : Int)) = false := bneF (by omega)
    have q' : (n != k) = false := by simp [hne]
    subst hne
    clear hn hk q q'
    go_enter Tryz.func44, Tryz.ntmps44
    go_wp2
    go_loopg [13] n (fun g s13 wr => ∃ i : Nat, i ≤ n ∧ g = n - i ∧ s13 = .int .i64 i ∧ (∀ j, j < i → eqP (L.getD j pr0) (M.getD j pr0) = true) ∧ Kept (fun _ => False) w wr)
    case atStart => exact ⟨0, Nat.zero_le _, rfl, rfl, fun j hj => by omega, Kept.refl _ _⟩
    case round =>
      obtain ⟨i, hin, rfl, rfl, hsame, hkr⟩ := hrel
      have HSAME := Lib.hid hsame
      by_cases hd : i < n
      · have hdi : (i : Int) < (n : Int) := by omega
        have hdi0 : (0 : Int) ≤ (i : Int) := by omega
        have HD := Lib.hid hd
        have wi : IntKind.i64.wrap ((i : Int) + 1) = ((i + 1 : Nat) : Int) := by have := HL.out; rw [IntWalk.i64_in _ ⟨by omega, by omega⟩]; omega
        have hil : i < L.length := by rw [← HN.out.1]; exact hd
        have him : i < M.length := by rw [← HN.out.2]; exact hd
        obtain ⟨ga, oa, rfl, hrec⟩ := HR.out (by omega)
        obtain ⟨gb, ob, rfl, hrec2⟩ := HS.out (by omega)
        have e1 := (hrec i L[i] (List.getElem?_eq_getElem hil)).keptS hkr (fun x => x)
        have e2 := (hrec2 i M[i] (List.getElem?_eq_getElem him)).keptS hkr (fun x => x)
        have g1 := getD_pr (List.getElem?_eq_getElem hil) pr0
        have g2 := getD_pr (List.getElem?_eq_getElem him) pr0
        obtain ⟨x, hx⟩ : ∃ p, p = L[i] := ⟨_, rfl⟩
        obtain ⟨y, hy⟩ : ∃ p, p = M[i] := ⟨_, rfl⟩
        rw [← hx] at e1 g1
        rw [← hy] at e2 g2
        have hG : eqP (L.getD i pr0) (M.getD i pr0) = ((x.k.toList == y.k.toList) && (x.v.toList == y.v.toList)) := by rw [g1, g2]; rfl
        obtain ⟨xk, xv⟩ := x
        obtain ⟨yk, yv⟩ := y
        have c0 := e1.c0
        have c1 := e1.c1
        have d0 := e2.c0
        have d1 := e2.c1
        dsimp only at hG c0 c1 d0 d1
        have HK : Hid (Kept (fun _ => False) w wr.drew) := Lib.hid hkr.drew
        have HGG := Lib.hid hG
        have HIL := Lib.hid hil
        clear hsame hkr hd hin hil him hx hy hrec hrec2 e1 e2 g1 g2 hG
        cases q1 : (xk.toList == yk.toList) with
        | true =>
          cases q2 : (xv.toList == yv.toList) with
          | true =>
            have HE : Hid (eqP (L.getD i pr0) (M.getD i pr0) = true) := Lib.hid (by rw [HGG.out, q1, q2]; rfl)
            go_upto_region 6 with fail
            go_region
            go_wp2
            go_roundg (n - (i + 1))
            case measure => have := HD.out; omega
            case rel => exact ⟨i + 1, HD.out, rfl, rfl, fun j hj => by
              rcases Nat.lt_succ_iff_lt_or_eq.1 hj with h | h
              · exact HSAME.out j h
              · rw [h]; exact HE.out, HK.out⟩
          | false =>
            have HF : Hid (B = false) := Lib.hid (by rw [HB.out]; exact sameL_not HIL.out (by rw [HGG.out, q1, q2]; rfl))
            go_upto_region 6 with fail
            go_region
            go_wp2
            go_ret
            exact ⟨by rw [HF.out]; rfl, HK.out⟩
        | false =>
          have HF : Hid (B = false) := Lib.hid (by rw [HB.out]; exact sameL_not HIL.out (by rw [HGG.out, q1]; rfl))
          go_upto_region 6 with fail
          go_region
          go_wp2
          go_ret
          exact ⟨by rw [HF.out]; rfl, HK.out⟩
      · obtain rfl : i = n := by omega
        have hdi : ¬ (i : Int) < (i : Int) := by omega
        have HK := Lib.hid hkr
        have HF : Hid (B = true) := Lib.hid (by rw [HB.out]; refine decide_eq_true ⟨by rw [← HN.out.1, ← HN.out.2], fun j hj => HSAME.out j (by rw [HN.out.1]; exact hj)⟩)
        clear hd hin hsame hkr
        go_wp2
        go_ret
        exact ⟨by rw [HF.out]; rfl, HK.out⟩
  · have q : ((n : Int) != (k : Int)) = true := bneT (by omega)
    have q' : (n != k) = true := by simp [hne]
    have HF : Hid (B = false) := Lib.hid (by rw [HB.out]; exact sameL_len (by rw [← hn, ← hk]; exact hne))
    clear hne hn hk
    go_enter Tryz.func44, Tryz.ntmps44
    go_wp2
    go_ret
    exact ⟨by rw [HF.out]; rfl, Kept.refl _ _⟩
set_option maxRecDepth 100000 in
set_option maxHeartbeats 4000000 in
theorem sameSide_any (o1 o2 : Int) (l1 l2 : List Nat) (v1 v2 : Value) (w : World) (h1 : SlAt w v1 (uvals l1)) (h2 : SlAt w v2 (uvals l2)) (hl : l1.length ≤ 1000000) :
    Calls Tryz.prog 73 #[.agg #[.int .i64 o1, v1], .agg #[.int .i64 o2, v2]] w fun e w' => e = .returned (.bool (decide (o1 = o2 ∧ l1 = l2))) ∧ Kept (fun _ => False) w w' := by
  obtain ⟨ao, c, hval, _, _⟩ := h1.val
  rw [uvals_length] at hval
  subst hval
  obtain ⟨bo, d, hval, _, _⟩ := h2.val
  rw [uvals_length] at hval
  subst hval
  obtain ⟨w0, hw0⟩ : ∃ w0, w0 = (w.alloc (.cells #[.int .i64 o1, .slice ao l1.length c] 26)).alloc (.cells #[.int .i64 o2, .slice bo l2.length d] 26) := ⟨_, rfl⟩
  have k0 : Kept (fun _ => False) w w0 := by rw [hw0]; exact ((Kept.refl _ w).alloc _).alloc _
  have HE := Lib.hid (sEqualU_any ao bo c d l1 l2 w0 (h1.kept k0 (fun _ _ x => x)) (h2.kept k0 (fun _ _ x => x)) hl)
  have HK0 := Lib.hid k0
  have HW0 := Lib.hid hw0
  obtain ⟨P, hP⟩ : ∃ P, P = decide (l1 = l2) := ⟨_, rfl⟩
  rw [← hP] at HE
  have hres : decide (o1 = o2 ∧ l1 = l2) = (decide (o1 = o2) && P) := by rw [hP]; apply Bool.eq_iff_iff.mpr; simp
  rw [hres]
  clear h1 h2 k0 hw0 hP hres hl
  by_cases ho : o1 = o2
  · have q1 : (o1 == o2) = true := beqT ho
    rw [decide_eq_true ho]
    clear ho
    go_enter Tryz.func73, Tryz.ntmps73
    go_wp2_with fail
    rw [← HW0.out]
    refine HE.out.mono ?_
    rintro e w1 ⟨rfl, k1⟩
    have HK1 := Lib.hid (HK0.out.trans k1)
    clear k1
    go_wp2
    go_ret
    exact ⟨by simp, HK1.out⟩
  · have q1 : (o1 == o2) = false := beqF ho
    rw [decide_eq_false ho]
    clear ho
    go_enter Tryz.func73, Tryz.ntmps73
    go_wp2
    rw [← HW0.out]
    go_ret
    exact ⟨by simp, HK0.out⟩
set_option maxHeartbeats 4000000 in
set_option maxRecDepth 100000 in
theorem hSame_any (g h : HistV) (gp gn pv nv : Value) (w : World) (hg : HistAt w g gp gn) (ha : HistAt w h pv nv) (hp : g.pl.length ≤ 1000000) (hn : g.nl.length ≤ 1000000) :
    Calls Tryz.prog 46 #[histV g gp gn, histV h pv nv] w fun e w' => e = .returned (.bool (decide (sameH g h))) ∧ Kept (fun _ => False) w w' := by
  obtain ⟨⟨ao, c, rfl⟩, bo, d, rfl⟩ := hg.sl
  obtain ⟨⟨ao', c', rfl⟩, bo', d', rfl⟩ := ha.sl
  obtain ⟨w0, hw0⟩ : ∃ w0, w0 = (w.alloc (.cells #[.int .i64 g.sc, .int .u64 (g.ze : Int), .int .i64 g.po, .slice ao g.pl.length c, .int .i64 g.no, .slice bo g.nl.length d] 28)).alloc (.cells #[.int .i64 h.sc, .int .u64 (h.ze : Int), .int .i64 h.po, .slice ao' h.pl.length c', .int .i64 h.no, .slice bo' h.nl.length d'] 28) := ⟨_, rfl⟩
  have k0 : Kept (fun _ => False) w w0 := by rw [hw0]; exact ((Kept.refl _ w).alloc _).alloc _
  have bx : HistBox w0 w.heap.size g (.slice ao g.pl.length c) (.slice bo g.nl.length d) := by
    rw [hw0]; exact ((Kept.refl (fun _ => False) _).alloc _).same (heap_alloc_new w _) (fun x => x)
  have rx : HistBox w0 (w.heap.size + 1) h (.slice ao' h.pl.length c') (.slice bo' h.nl.length d') := by
    rw [hw0]
    have := heap_alloc_new (w.alloc (.cells #[.int .i64 g.sc, .int .u64 (g.ze : Int), .int .i64 g.po, .slice ao g.pl.length c, .int .i64 g.no, .slice bo g.nl.length d] 28)) (.cells #[.int .i64 h.sc, .int .u64 (h.ze : Int), .int .i64 h.po, .slice ao' h.pl.length c', .int .i64 h.no, .slice bo' h.nl.length d'] 28)
    have e : (w.alloc (.cells #[.int .i64 g.sc, .int .u64 (g.ze : Int), .int .i64 g.po, .slice ao g.pl.length c, .int .i64 g.no, .slice bo g.nl.length d] 28)).heap.size = w.heap.size + 1 := by simp
    rw [e] at this
    exact this
  have HS1 := Lib.hid fun w' (k : Kept (fun _ => False) w0 w') => sameSide_any g.po h.po g.pl h.pl _ _ w' (hg.on (k0.trans k)).p (ha.on (k0.trans k)).p hp
  have HS2 := Lib.hid fun w' (k : Kept (fun _ => False) w0 w') => sameSide_any g.no h.no g.nl h.nl _ _ w' (hg.on (k0.trans k)).n (ha.on (k0.trans k)).n hn
  have HK0 := Lib.hid k0
  have HBX := Lib.hid bx
  have HRX := Lib.hid rx
  have HW0 := Lib.hid hw0
  obtain ⟨P, hP⟩ : ∃ b : Bool, b = decide (g.po = h.po ∧ g.pl = h.pl) := ⟨_, rfl⟩
  obtain ⟨Q, hQ⟩ : ∃ b : Bool, b = decide (g.no = h.no ∧ g.nl = h.nl) := ⟨_, rfl⟩
  have hres : decide (sameH g h) = (decide (g.sc = h.sc) && (decide (g.ze = h.ze) && (P && Q))) := by
    rw [hP, hQ]; apply Bool.eq_iff_iff.mpr; simp only [Bool.and_eq_true, decide_eq_true_eq]; unfold sameH; exact Iff.rfl
  rw [hres]
  rw [← hP] at HS1
  rw [← hQ] at HS2
  clear hg ha k0 bx rx hw0 hP hQ hres hp hn
  obtain ⟨sc, ze, po, pl, no, nl⟩ := g
  obtain ⟨sc', ze', po', pl', no', nl'⟩ := h
  unfold histV
  simp only at HS1 HS2 HBX HRX HW0 ⊢
  by_cases h1 : sc = sc'
  · have q1 : (sc == sc') = true := beqT h1
    rw [decide_eq_true h1]
    by_cases h2 : ze = ze'
    · have q2 : ((ze : Int) == (ze' : Int)) = true := beqT (by omega)
      rw [decide_eq_true h2]
      clear h1 h2
      cases P with
      | true =>
        go_enter Tryz.func46, Tryz.ntmps46
        go_wp2_with (first
          | (have _tok := HK1.out; go_at_call 73; refine (HS2.out _ HK1.out).mono ?_; rintro e w2 ⟨rfl, k2⟩; have HK2 := Lib.hid (HK1.out.trans k2); clear k2)
          | (go_at_call 73; rw [← HW0.out]; refine (HS1.out _ (Kept.refl _ _)).mono ?_; rintro e w1 ⟨rfl, k1⟩; have HK1 := Lib.hid k1; obtain ⟨c0, c1, c2, c3, c4, c5⟩ := (HBX.out.same k1 (fun x => x)).c; obtain ⟨d0, d1, d2, d3, d4, d5⟩ := (HRX.out.same k1 (fun x => x)).c; clear k1)
          | fail)
        go_ret
        exact ⟨by simp, HK0.out.trans HK2.out⟩
      | false =>
        go_enter Tryz.func46, Tryz.ntmps46
        go_wp2_with (first
          | (go_at_call 73; rw [← HW0.out]; refine (HS1.out _ (Kept.refl _ _)).mono ?_; rintro e w1 ⟨rfl, k1⟩; have HK1 := Lib.hid k1; clear k1)
          | fail)
        go_ret
        exact ⟨by simp, HK0.out.trans HK1.out⟩
    · have q2 : ((ze : Int) == (ze' : Int)) = false := beqF (by omega)
      rw [decide_eq_false h2]
      clear h1 h2
      go_enter Tryz.func46, Tryz.ntmps46
      go_wp2
      rw [← HW0.out]
      go_ret
      exact ⟨by simp, HK0.out⟩
  · have q1 : (sc == sc') = false := beqF h1
    rw [decide_eq_false h1]
    clear h1
    go_enter Tryz.func46, Tryz.ntmps46
    go_wp2
    rw [← HW0.out]
    go_ret
    exact ⟨by simp, HK0.out⟩
end Go.Proofs.YteflepcmblacaaaGreatDoor
