/- package hist: Check, At. -/
import Derived.Test.YtjpnfadmblmjbaaDoorH2
namespace Go.Proofs.YtjpnfadmblmjbaaDoor
open Go.RowKit
attribute [local go_sem ↓] Go.wp_at_zero Go.wp_at_succ

theorem sideE_le (o : Int) (l : List Nat) : sideE o l ≤ 4 := by
  unfold sideE
  split
  · omega
  · split
    · split <;> omega
    · split
      · omega
      · split <;> omega

set_option maxHeartbeats 4000000 in
set_option maxRecDepth 100000 in
theorem histCheck_any (h : HistV) (pv nv : Value) (w : World) (ha : HistAt w h pv nv) (hok : h.ok) (hp : h.pl.length ≤ 1000000) (hn : h.nl.length ≤ 1000000) :
    Calls Tryd.prog 64 #[histV h pv nv] w fun e w' => e = .returned (.int .i64 ((h.err : Nat) : Int)) ∧ Kept (fun _ => False) w w' := by
  obtain ⟨⟨ao, c, rfl⟩, bo, d, rfl⟩ := ha.sl
  have HCP := Lib.hid fun w' (k : Kept (fun _ => False) w w') => checkSide_any h.po h.pl _ w' (ha.on k).p hok.po
  have HCN := Lib.hid fun w' (k : Kept (fun _ => False) w w') => checkSide_any h.no h.nl _ w' (ha.on k).n hok.no
  have HTO := Lib.hid fun w' (k : Kept (fun _ => False) w w') => histTotal_any h _ _ w' (ha.on k) hok.ze hp hn hok.pl hok.nl
  have hsc := hok.sc
  have hE : h.err = if h.sc < -10 ∨ 20 < h.sc then 1 else if sideE h.po h.pl ≠ 0 then sideE h.po h.pl else if sideE h.no h.nl ≠ 0 then sideE h.no h.nl else if 18446744073709551616 ≤ h.total then 4 else 0 := rfl
  obtain ⟨E1, hE1⟩ : ∃ E, E = sideE h.po h.pl := ⟨_, rfl⟩
  obtain ⟨E2, hE2⟩ : ∃ E, E = sideE h.no h.nl := ⟨_, rfl⟩
  rw [← hE1, ← hE2] at hE
  rw [← hE1] at HCP
  rw [← hE2] at HCN
  unfold totV at HTO
  obtain ⟨T, hT⟩ : ∃ E, E = h.total := ⟨_, rfl⟩
  rw [← hT] at hE HTO
  obtain ⟨sc, ze, po, pl, no, nl⟩ := h
  unfold histV at HTO ⊢
  simp only at HCP HCN HTO hp hn hE hsc ⊢
  have hE0 := Lib.hid hE
  have KB := Lib.hid ((Kept.refl (fun _ => False) w).alloc (.cells #[.int .i64 sc, .int .u64 (ze : Int), .int .i64 po, .slice ao pl.length c, .int .i64 no, .slice bo nl.length d] 62))
  have hcase : sc < -10 ∨ (-10 ≤ sc ∧ 20 < sc) ∨ (-10 ≤ sc ∧ ¬ 20 < sc) := by omega
  clear ha hok hE1 hE2 hT hE
  rcases hcase with h1 | ⟨h1, h2⟩ | ⟨h1, h2⟩
  · have HE := Lib.hid (show _ = 1 from hE0.out.trans (if_pos (.inl h1)))
    go_enter Tryd.func64, Tryd.ntmps64
    go_wp2
    go_ret
    exact ⟨by rw [HE.out]; rfl, KB.out⟩
  · have HE := Lib.hid (show _ = 1 from hE0.out.trans (if_pos (.inr h2)))
    go_enter Tryd.func64, Tryd.ntmps64
    go_wp2
    go_ret
    exact ⟨by rw [HE.out]; rfl, KB.out⟩
  · have HE := Lib.hid (hE0.out.trans (if_neg (by omega)))
    obtain ⟨ER, hER⟩ : ∃ E, E = HistV.err ⟨sc, ze, po, pl, no, nl⟩ := ⟨_, rfl⟩
    rw [← hER] at HE ⊢
    clear hE0 hER
    go_enter Tryd.func64, Tryd.ntmps64
    go_wp2
    go_loopg [4, 5, 21, 22, 23, 24, 25, 26, 27, 28, 29] 2 (fun g s4 s5 s21 s22 s23 s24 s25 s26 s27 s28 s29 wr => ∃ k : Nat, k ≤ 2 ∧ g = 2 - k ∧ s21 = .int .i64 k ∧ (k = 0 ∨ k = 1 ∧ E1 = 0 ∨ k = 2 ∧ E1 = 0 ∧ E2 = 0) ∧ Kept (fun _ => False) (w.alloc (.cells #[.int .i64 sc, .int .u64 (ze : Int), .int .i64 po, .slice ao pl.length c, .int .i64 no, .slice bo nl.length d] 62)) wr)
    case atStart => exact ⟨0, by omega, rfl, rfl, .inl rfl, Kept.refl _ _⟩
    case round =>
      obtain ⟨k, hk2, rfl, rfl, hcase, hkw⟩ := hrel
      have HK := Lib.hid (KB.out.trans hkw)
      have HKB := Lib.hid hkw
      clear hkw
      rcases hcase with rfl | ⟨rfl, z1⟩ | ⟨rfl, z1, z2⟩
      · have ix : ∀ w, (Instr.index 118 (.agg #[.int .i64 po, .slice ao pl.length c, .int .i64 no, .slice bo nl.length d]) (.int .i64 0)).run Tryd.prog w = .ok (.agg #[.int .i64 po, .slice ao pl.length c]) w := fun _ => by kernel_rfl
        by_cases z : E1 = 0
        · have q : ((E1 : Int) != 0) = false := bneF (by omega)
          have Z := Lib.hid z
          clear z hk2
          go_wp2_with (go_at_call 87; refine (HCP.out _ (HK.out.alloc _)).mono ?_; rintro e w1 ⟨rfl, k1⟩; have K1 := Lib.hid ((HKB.out.alloc _).trans k1); clear k1)
          go_roundg 1
          case measure => omega
          case rel => exact ⟨1, by omega, rfl, rfl, .inr (.inl ⟨rfl, Z.out⟩), K1.out⟩
        · have q : ((E1 : Int) != 0) = true := bneT (by omega)
          have HE2 := Lib.hid (HE.out.trans (if_pos z))
          clear z hk2
          go_wp2_with (go_at_call 87; refine (HCP.out _ (HK.out.alloc _)).mono ?_; rintro e w1 ⟨rfl, k1⟩; have K1 := Lib.hid ((HK.out.alloc _).trans k1); clear k1)
          go_ret
          exact ⟨by rw [HE2.out]; rfl, K1.out⟩
      · have ix : ∀ w, (Instr.index 118 (.agg #[.int .i64 po, .slice ao pl.length c, .int .i64 no, .slice bo nl.length d]) (.int .i64 1)).run Tryd.prog w = .ok (.agg #[.int .i64 no, .slice bo nl.length d]) w := fun _ => by kernel_rfl
        have Z1 := Lib.hid z1
        have HE1 := Lib.hid (HE.out.trans (if_neg (by omega)))
        by_cases z : E2 = 0
        · have q : ((E2 : Int) != 0) = false := bneF (by omega)
          have Z := Lib.hid z
          clear z hk2 z1
          go_wp2_with (go_at_call 87; refine (HCN.out _ (HK.out.alloc _)).mono ?_; rintro e w1 ⟨rfl, k1⟩; have K1 := Lib.hid ((HKB.out.alloc _).trans k1); clear k1)
          go_roundg 0
          case measure => omega
          case rel => exact ⟨2, by omega, rfl, rfl, .inr (.inr ⟨rfl, Z1.out, Z.out⟩), K1.out⟩
        · have q : ((E2 : Int) != 0) = true := bneT (by omega)
          have HE2 := Lib.hid (HE1.out.trans (if_pos z))
          clear z hk2 z1
          go_wp2_with (go_at_call 87; refine (HCN.out _ (HK.out.alloc _)).mono ?_; rintro e w1 ⟨rfl, k1⟩; have K1 := Lib.hid ((HK.out.alloc _).trans k1); clear k1)
          go_ret
          exact ⟨by rw [HE2.out]; rfl, K1.out⟩
      · have HE1 := Lib.hid (HE.out.trans ((if_neg (by omega)).trans (if_neg (by omega))))
        have hbox : wr.heap[w.heap.size]? = some (.cells #[.int .i64 sc, .int .u64 (ze : Int), .int .i64 po, .slice ao pl.length c, .int .i64 no, .slice bo nl.length d] 62 (0, 0)) := HKB.out.same (heap_alloc_new w _) (fun x => x)
        have b0 : wr.cell? ⟨w.heap.size, 0, none⟩ = some (.int .i64 sc) := by rw [cell_of_row _ _ 0 _ _ _ hbox]; rfl
        have b1 : wr.cell? ⟨w.heap.size, 1, none⟩ = some (.int .u64 (ze : Int)) := by rw [cell_of_row _ _ 1 _ _ _ hbox]; rfl
        have b2 : wr.cell? ⟨w.heap.size, 2, none⟩ = some (.int .i64 po) := by rw [cell_of_row _ _ 2 _ _ _ hbox]; rfl
        have b3 : wr.cell? ⟨w.heap.size, 3, none⟩ = some (.slice ao pl.length c) := by rw [cell_of_row _ _ 3 _ _ _ hbox]; rfl
        have b4 : wr.cell? ⟨w.heap.size, 4, none⟩ = some (.int .i64 no) := by rw [cell_of_row _ _ 4 _ _ _ hbox]; rfl
        have b5 : wr.cell? ⟨w.heap.size, 5, none⟩ = some (.slice bo nl.length d) := by rw [cell_of_row _ _ 5 _ _ _ hbox]; rfl
        have HTW := Lib.hid (HTO.out wr HK.out)
        clear z1 z2 hk2 hbox HTO
        by_cases ht : T < 18446744073709551616
        · have HE2 := Lib.hid (HE1.out.trans (if_neg (by omega)))
          rw [if_pos ht, decide_eq_true ht] at HTW
          clear ht
          go_wp2_with (go_at_call 88; refine HTW.out.mono ?_; rintro e w1 ⟨rfl, k1⟩; have K1 := Lib.hid (HK.out.trans k1); clear k1)
          go_ret
          exact ⟨by rw [HE2.out]; rfl, K1.out⟩
        · have HE2 := Lib.hid (HE1.out.trans (if_pos (by omega)))
          rw [if_neg ht, decide_eq_false ht] at HTW
          clear ht
          go_wp2_with (go_at_call 88; refine HTW.out.mono ?_; rintro e w1 ⟨rfl, k1⟩; have K1 := Lib.hid (HK.out.trans k1); clear k1)
          go_ret
          exact ⟨by rw [HE2.out]; rfl, K1.out⟩
end Go.Proofs.YtjpnfadmblmjbaaDoor
