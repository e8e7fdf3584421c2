/- The document's answer for hist: Check, Same. -/
import Derived.Test.YtjpnfadmblmjbaaDoorJ3
namespace Go.Proofs.YtjpnfadmblmjbaaDoor
open Go.RowKit
attribute [local go_sem ↓] Go.wp_at_zero Go.wp_at_succ

set_option maxHeartbeats 4000000 in
set_option maxRecDepth 100000 in
theorem refCheck_any (h : HistV) (pv nv : Value) (w : World) (ha : HistAt w h pv nv) (hok : h.ok) (hp : h.pl.length ≤ 1000000) (hn : h.nl.length ≤ 1000000) :
    Calls Tryd.prog 40 #[histV h pv nv] w fun e w' => e = .returned (.int .i64 ((h.err : Nat) : Int)) ∧ Kept (fun _ => False) w w' := by
  obtain ⟨⟨ao, c, rfl⟩, bo, d, rfl⟩ := ha.sl
  have HCP := Lib.hid fun w' (k : Kept (fun _ => False) w w') => refSide_any h.po h.pl _ w' (ha.on k).p hok.po hp
  have HCN := Lib.hid fun w' (k : Kept (fun _ => False) w w') => refSide_any h.no h.nl _ w' (ha.on k).n hok.no hn
  have HTO := Lib.hid fun w' (k : Kept (fun _ => False) w w') => refTotal_any h _ _ w' (ha.on k) hok.ze hp hn hok.pl hok.nl
  have hsc := hok.sc
  have hE : h.err = if h.sc < -10 ∨ 20 < h.sc then 1 else if sideE h.po h.pl ≠ 0 then sideE h.po h.pl else if sideE h.no h.nl ≠ 0 then sideE h.no h.nl else if 18446744073709551616 ≤ h.total then 4 else 0 := rfl
  obtain ⟨E1, hE1⟩ : ∃ E, E = sideE h.po h.pl := ⟨_, rfl⟩
  obtain ⟨E2, hE2⟩ : ∃ E, E = sideE h.no h.nl := ⟨_, rfl⟩
  rw [← hE1, ← hE2] at hE
  rw [← hE1] at HCP
  rw [← hE2] at HCN
  unfold totV at HTO
  obtain ⟨T, hT⟩ : ∃ E, E = h.total := ⟨_, rfl⟩
  rw [← hT] at hE HTO
  obtain ⟨ER, hER⟩ : ∃ E, E = h.err := ⟨_, rfl⟩
  rw [← hER] at hE ⊢
  have kb := (Kept.refl (fun _ => False) w).alloc (.cells #[.int .i64 h.sc, .int .u64 (h.ze : Int), .int .i64 h.po, .slice ao h.pl.length c, .int .i64 h.no, .slice bo h.nl.length d] 62)
  have KB := Lib.hid kb
  have hbx : HistBox (w.alloc (.cells #[.int .i64 h.sc, .int .u64 (h.ze : Int), .int .i64 h.po, .slice ao h.pl.length c, .int .i64 h.no, .slice bo h.nl.length d] 62)) w.heap.size h (.slice ao h.pl.length c) (.slice bo h.nl.length d) := heap_alloc_new w _
  have HBX := Lib.hid hbx
  obtain ⟨sc, ze, po, pl, no, nl⟩ := h
  unfold histV at HTO ⊢
  simp only at HCP HCN HTO hE hsc KB HBX ⊢
  clear ha hok hE1 hE2 hT hER kb hbx
  by_cases h1 : sc < -10
  · rw [if_pos (.inl h1)] at hE
    subst hE
    go_enter Tryd.func40, Tryd.ntmps40
    go_wp2
    go_ret
    exact ⟨rfl, KB.out⟩
  · by_cases h2 : 20 < sc
    · rw [if_pos (.inr h2)] at hE
      subst hE
      go_enter Tryd.func40, Tryd.ntmps40
      go_wp2
      go_ret
      exact ⟨rfl, KB.out⟩
    · rw [if_neg (by omega)] at hE
      have HE := Lib.hid hE
      clear hE
      obtain ⟨wb, hwb⟩ : ∃ wb, wb = w.alloc (.cells #[.int .i64 sc, .int .u64 (ze : Int), .int .i64 po, .slice ao pl.length c, .int .i64 no, .slice bo nl.length d] 62) := ⟨_, rfl⟩
      rw [← hwb] at KB HBX
      have HWB := Lib.hid hwb
      clear hwb
      by_cases z1 : E1 = 0
      · have q1 : ((E1 : Int) != 0) = false := bneF (by omega)
        have HE1 := Lib.hid (HE.out.trans (if_neg (by omega)))
        by_cases z2 : E2 = 0
        · have q2 : ((E2 : Int) != 0) = false := bneF (by omega)
          have HE2 := Lib.hid (HE1.out.trans (if_neg (by omega)))
          by_cases ht : T < 18446744073709551616
          all_goals
            first
              | (rw [if_pos ht, decide_eq_true ht] at HTO; have HE3 := Lib.hid (HE2.out.trans (if_neg (by omega))))
              | (rw [if_neg ht, decide_eq_false ht] at HTO; have HE3 := Lib.hid (HE2.out.trans (if_pos (by omega))))
            clear z1 z2 ht
            go_enter Tryd.func40, Tryd.ntmps40
            go_wp2_with (first
              | (have _tok := HK2.out; go_at_call 70; refine (HTO.out _ (KB.out.trans HK2.out)).mono ?_; rintro e w3 ⟨rfl, k3⟩; have HK3 := Lib.hid (HK2.out.trans k3); clear k3)
              | (have _tok := HK1.out; go_at_call 69; refine (HCN.out _ (KB.out.trans HK1.out)).mono ?_; rintro e w2 ⟨rfl, k2⟩; have HK2 := Lib.hid (HK1.out.trans k2); obtain ⟨c0, c1, c2, c3, c4, c5⟩ := (HBX.out.same HK2.out (fun x => x)).c; clear k2)
              | (go_at_call 69; rw [← HWB.out]; refine (HCP.out _ KB.out).mono ?_; rintro e w1 ⟨rfl, k1⟩; have HK1 := Lib.hid k1; obtain ⟨c0, c1, c2, c3, c4, c5⟩ := (HBX.out.same HK1.out (fun x => x)).c; clear k1)
              | fail)
            go_ret
            exact ⟨by rw [HE3.out]; rfl, KB.out.trans HK3.out⟩
        · have q2 : ((E2 : Int) != 0) = true := bneT (by omega)
          have HE2 := Lib.hid (HE1.out.trans (if_pos z2))
          clear z1 z2
          go_enter Tryd.func40, Tryd.ntmps40
          go_wp2_with (first
            | (have _tok := HK1.out; go_at_call 69; refine (HCN.out _ (KB.out.trans HK1.out)).mono ?_; rintro e w2 ⟨rfl, k2⟩; have HK2 := Lib.hid (HK1.out.trans k2); clear k2)
            | (go_at_call 69; rw [← HWB.out]; refine (HCP.out _ KB.out).mono ?_; rintro e w1 ⟨rfl, k1⟩; have HK1 := Lib.hid k1; obtain ⟨c0, c1, c2, c3, c4, c5⟩ := (HBX.out.same HK1.out (fun x => x)).c; clear k1)
            | fail)
          go_ret
          exact ⟨by rw [HE2.out]; rfl, KB.out.trans HK2.out⟩
      · have q1 : ((E1 : Int) != 0) = true := bneT (by omega)
        have HE1 := Lib.hid (HE.out.trans (if_pos z1))
        clear z1
        go_enter Tryd.func40, Tryd.ntmps40
        go_wp2_with (first
          | (go_at_call 69; rw [← HWB.out]; refine (HCP.out _ KB.out).mono ?_; rintro e w1 ⟨rfl, k1⟩; have HK1 := Lib.hid k1; clear k1)
          | fail)
        go_ret
        exact ⟨by rw [HE1.out]; rfl, KB.out.trans HK1.out⟩

/-- Whether two histograms are the same. -/
def sameH (g h : HistV) : Prop := g.sc = h.sc ∧ g.ze = h.ze ∧ (g.po = h.po ∧ g.pl = h.pl) ∧ (g.no = h.no ∧ g.nl = h.nl)
instance (g h : HistV) : Decidable (sameH g h) := by unfold sameH; infer_instance
theorem sameH_iff (g h : HistV) : sameH g h ↔ g = h := by
  obtain ⟨a1, a2, a3, a4, a5, a6⟩ := g
  obtain ⟨b1, b2, b3, b4, b5, b6⟩ := h
  unfold sameH
  constructor
  · rintro ⟨h1, h2, ⟨h3, h4⟩, h5, h6⟩
    simp only at h1 h2 h3 h4 h5 h6
    subst h1 h2 h3 h4 h5 h6
    rfl
  · intro h
    injection h with h1 h2 h3 h4 h5 h6
    exact ⟨h1, h2, ⟨h3, h4⟩, h5, h6⟩

set_option maxHeartbeats 4000000 in
set_option maxRecDepth 100000 in
theorem refSame_any (g h : HistV) (gp gn pv nv : Value) (w : World) (hg : HistAt w g gp gn) (ha : HistAt w h pv nv) (hp : g.pl.length ≤ 1000000) (hn : g.nl.length ≤ 1000000) :
    Calls Tryd.prog 44 #[histV g gp gn, histV h pv nv] w fun e w' => e = .returned (.bool (decide (sameH g h))) ∧ Kept (fun _ => False) w w' := by
  obtain ⟨⟨ao, c, rfl⟩, bo, d, rfl⟩ := hg.sl
  obtain ⟨⟨ao', c', rfl⟩, bo', d', rfl⟩ := ha.sl
  obtain ⟨w0, hw0⟩ : ∃ w0, w0 = (w.alloc (.cells #[.int .i64 g.sc, .int .u64 (g.ze : Int), .int .i64 g.po, .slice ao g.pl.length c, .int .i64 g.no, .slice bo g.nl.length d] 62)).alloc (.cells #[.int .i64 h.sc, .int .u64 (h.ze : Int), .int .i64 h.po, .slice ao' h.pl.length c', .int .i64 h.no, .slice bo' h.nl.length d'] 62) := ⟨_, rfl⟩
  have k0 : Kept (fun _ => False) w w0 := by rw [hw0]; exact ((Kept.refl _ w).alloc _).alloc _
  have bx : HistBox w0 w.heap.size g (.slice ao g.pl.length c) (.slice bo g.nl.length d) := by
    rw [hw0]; exact ((Kept.refl (fun _ => False) _).alloc _).same (heap_alloc_new w _) (fun x => x)
  have rx : HistBox w0 (w.heap.size + 1) h (.slice ao' h.pl.length c') (.slice bo' h.nl.length d') := by
    rw [hw0]
    have := heap_alloc_new (w.alloc (.cells #[.int .i64 g.sc, .int .u64 (g.ze : Int), .int .i64 g.po, .slice ao g.pl.length c, .int .i64 g.no, .slice bo g.nl.length d] 62)) (.cells #[.int .i64 h.sc, .int .u64 (h.ze : Int), .int .i64 h.po, .slice ao' h.pl.length c', .int .i64 h.no, .slice bo' h.nl.length d'] 62)
    have e : (w.alloc (.cells #[.int .i64 g.sc, .int .u64 (g.ze : Int), .int .i64 g.po, .slice ao g.pl.length c, .int .i64 g.no, .slice bo g.nl.length d] 62)).heap.size = w.heap.size + 1 := by simp
    rw [e] at this
    exact this
  have HS1 := Lib.hid fun w' (k : Kept (fun _ => False) w0 w') => refSameSide_any g.po h.po g.pl h.pl _ _ w' (hg.on (k0.trans k)).p (ha.on (k0.trans k)).p hp
  have HS2 := Lib.hid fun w' (k : Kept (fun _ => False) w0 w') => refSameSide_any g.no h.no g.nl h.nl _ _ w' (hg.on (k0.trans k)).n (ha.on (k0.trans k)).n hn
  have HK0 := Lib.hid k0
  have HBX := Lib.hid bx
  have HRX := Lib.hid rx
  have HW0 := Lib.hid hw0
  obtain ⟨P, hP⟩ : ∃ b : Bool, b = decide (g.po = h.po ∧ g.pl = h.pl) := ⟨_, rfl⟩
  obtain ⟨Q, hQ⟩ : ∃ b : Bool, b = decide (g.no = h.no ∧ g.nl = h.nl) := ⟨_, rfl⟩
  have hres : decide (sameH g h) = (decide (g.sc = h.sc) && (decide (g.ze = h.ze) && (P && Q))) := by
    rw [hP, hQ]; apply Bool.eq_iff_iff.mpr; simp only [Bool.and_eq_true, decide_eq_true_eq]; unfold sameH; exact Iff.rfl
  rw [hres]
  rw [← hP] at HS1
  rw [← hQ] at HS2
  clear hg ha k0 bx rx hw0 hP hQ hres hp hn
  obtain ⟨sc, ze, po, pl, no, nl⟩ := g
  obtain ⟨sc', ze', po', pl', no', nl'⟩ := h
  unfold histV
  simp only at HS1 HS2 HBX HRX HW0 ⊢
  by_cases h1 : sc = sc'
  · have q1 : (sc == sc') = true := beqT h1
    rw [decide_eq_true h1]
    by_cases h2 : ze = ze'
    · have q2 : ((ze : Int) == (ze' : Int)) = true := beqT (by omega)
      rw [decide_eq_true h2]
      clear h1 h2
      cases P with
      | true =>
        go_enter Tryd.func44, Tryd.ntmps44
        go_wp2_with (first
          | (have _tok := HK1.out; go_at_call 76; refine (HS2.out _ HK1.out).mono ?_; rintro e w2 ⟨rfl, k2⟩; have HK2 := Lib.hid (HK1.out.trans k2); clear k2)
          | (go_at_call 76; rw [← HW0.out]; refine (HS1.out _ (Kept.refl _ _)).mono ?_; rintro e w1 ⟨rfl, k1⟩; have HK1 := Lib.hid k1; obtain ⟨c0, c1, c2, c3, c4, c5⟩ := (HBX.out.same k1 (fun x => x)).c; obtain ⟨d0, d1, d2, d3, d4, d5⟩ := (HRX.out.same k1 (fun x => x)).c; clear k1)
          | fail)
        go_ret
        exact ⟨by simp, HK0.out.trans HK2.out⟩
      | false =>
        go_enter Tryd.func44, Tryd.ntmps44
        go_wp2_with (first
          | (go_at_call 76; rw [← HW0.out]; refine (HS1.out _ (Kept.refl _ _)).mono ?_; rintro e w1 ⟨rfl, k1⟩; have HK1 := Lib.hid k1; clear k1)
          | fail)
        go_ret
        exact ⟨by simp, HK0.out.trans HK1.out⟩
    · have q2 : ((ze : Int) == (ze' : Int)) = false := beqF (by omega)
      rw [decide_eq_false h2]
      clear h1 h2
      go_enter Tryd.func44, Tryd.ntmps44
      go_wp2
      rw [← HW0.out]
      go_ret
      exact ⟨by simp, HK0.out⟩
  · have q1 : (sc == sc') = false := beqF h1
    rw [decide_eq_false h1]
    clear h1
    go_enter Tryd.func44, Tryd.ntmps44
    go_wp2
    rw [← HW0.out]
    go_ret
    exact ⟨by simp, HK0.out⟩
end Go.Proofs.YtjpnfadmblmjbaaDoor
