/- The walk of 'FrameReads'. -/
import Derived.Test.YtmmaickpkpkajaaDoorF22
import Derived.Test.YtmmaickpkpkajaaDoorF18
namespace Go.Proofs.YtmmaickpkpkajaaDoor
open Go.RowKit
attribute [local go_sem ↓] Go.wp_at_zero Go.wp_at_succ

theorem ScanR.lt {l : List Nat} {Ls : List (List Nat)} {u e : Nat} (h : ScanR l Ls u e) : (∀ x ∈ l, x < 256) → ∀ p ∈ Ls, ∀ x ∈ p, x < 256 := by
  induction h with
  | done => intro _ p hp; exact absurd hp (by simp)
  | bad l h he => intro _ p hp; exact absurd hp (by simp)
  | more l Ls u e h hr ih =>
    intro hb p hp
    rcases List.mem_cons.1 hp with rfl | hp
    · exact fun x hx => hb x (List.mem_of_mem_drop (List.mem_of_mem_take hx))
    · exact ih (fun x hx => hb x (List.mem_of_mem_drop hx)) p hp
theorem ScanR.len {l : List Nat} {Ls : List (List Nat)} {u e : Nat} (h : ScanR l Ls u e) : u ≤ l.length ∧ Ls.length ≤ u := by
  induction h with
  | done => exact ⟨Nat.le_refl _, Nat.le_refl _⟩
  | bad l h he => exact ⟨Nat.zero_le _, Nat.le_refl _⟩
  | more l Ls u e h hr ih =>
    have := firstE_size l h
    rw [List.length_drop] at ih
    simp only [List.length_cons]
    omega

theorem firsts_same (ao : Option Addr) (c : Nat) (l : List Nat) (hl : l.length ≤ 1000000000) (hcap : l.length ≤ c) (W : World) (HB : Row8 W (.slice ao l.length c) l) (HN : Nibs W) :
    ∃ (Z : Nat) (P8 : List Nat) (n0 e0 : Nat), (∀ w1, Kept (fun _ => False) W w1 → Calls Tryd.prog 12 #[.slice ao l.length c] w1 fun e w' => ∃ pa pc, e = .returned (.tuple #[.slice pa Z pc, .int .i64 (n0 : Int), .int .i64 (e0 : Int)]) ∧ Row8 w' (.slice pa Z pc) P8 ∧ Kept (fun _ => False) w1 w') ∧
      (∀ w1, Kept (fun _ => False) W w1 → Calls Tryd.prog 13 #[.slice ao l.length c, .int .i64 0] w1 fun e w' => ∃ ga gc, e = .returned (.agg #[.slice ga Z gc, .int .i64 (n0 : Int), .int .i64 (e0 : Int)]) ∧ Row8 w' (.slice ga Z gc) P8 ∧ Kept (fun _ => False) w1 w') := by
  have hF := fun w1 (hk : Kept (fun _ => False) W w1) => first_any ao c l hl hcap w1 (HB.kept hk) (HN.kept hk)
  have hG := fun w1 (hk : Kept (fun _ => False) W w1) => refFirst_any ao c l 0 hl hcap (by omega) w1 (HB.kept hk)
  rw [List.drop_zero] at hG
  by_cases he : firstE l = 0
  · have hsz := firstE_size l he
    have hpl : (payL l).length = sizeL l := by unfold payL; rw [List.length_take, List.length_drop]; omega
    have hpb : ∀ x ∈ payL l, x < 256 := fun x hx => HB.lt x (List.mem_of_mem_drop (List.mem_of_mem_take hx))
    refine ⟨sizeL l, payL l, 9 + sizeL l, 0, fun w1 hk => (hF w1 hk).mono ?_, fun w1 hk => (hG w1 hk).mono ?_⟩
    · intro e w' h
      unfold Firsted at h
      rw [if_pos he] at h
      obtain ⟨v, rfl, h2, h3⟩ := h
      obtain ⟨pa, pc, rfl⟩ := ownsRow_slice h2
      exact ⟨pa, pc, rfl, row8_own hpb h2, h3⟩
    · intro e w' h
      unfold RefGot at h
      rw [if_pos he] at h
      obtain ⟨ga, gc, rfl, h2, h3⟩ := h
      exact ⟨ga, gc, rfl, h2 w' (HB.kept (hk.trans h3)), h3⟩
  · refine ⟨0, [], 0, firstE l, fun w1 hk => (hF w1 hk).mono ?_, fun w1 hk => (hG w1 hk).mono ?_⟩
    · intro e w' h
      unfold Firsted at h
      rw [if_neg he] at h
      exact ⟨none, 0, h.1, row8_none w', h.2⟩
    · intro e w' h
      unfold RefGot at h
      rw [if_neg he] at h
      exact ⟨none, 0, h.1, row8_none w', h.2⟩

set_option maxHeartbeats 1000000 in
theorem reads_big (ao : Option Addr) (c n : Nat) (W : World) (HN : Nibs W) (c1 : decide ((3000 : Int) < (n : Int)) = true) :
    Calls Tryd.prog 5 #[.slice ao n c] W fun e w' => e = .returned (.bool true) ∧ Kept (fun _ => False) W w' := by
  have HA := Lib.hid (awake_any W HN)
  clear HN
  go_enter Tryd.func5, Tryd.ntmps5
  go_wp2_with (go_at_call 8; refine HA.out.mono ?_; rintro e w1 ⟨rfl, hk1⟩; have H1 := Lib.hid hk1; clear hk1)
  go_ret
  exact ⟨rfl, H1.out⟩

set_option maxHeartbeats 4000000 in
set_option maxRecDepth 100000 in
theorem reads_small (ao : Option Addr) (c : Nat) (l : List Nat) (W : World) (HB : Row8 W (.slice ao l.length c) l) (hcap : l.length ≤ c) (HN : Nibs W) (c1 : decide ((3000 : Int) < (l.length : Int)) = false) :
    Calls Tryd.prog 5 #[.slice ao l.length c] W fun e w' => e = .returned (.bool true) ∧ Kept (fun _ => False) W w' := by
  have HA := Lib.hid (awake_any W HN)
  have hl : ¬ (3000 : Int) < (l.length : Int) := of_decide_eq_false c1
  obtain ⟨Z, P8, n0, e0, hF, hG⟩ := firsts_same ao c l (by omega) hcap W HB HN
  have HF := Lib.hid hF
  have HG := Lib.hid hG
  have HS := Lib.hid (fun w1 (hk : Kept (fun _ => False) W w1) => scan_any ao c l (by omega) hcap w1 (HB.kept hk) (HN.kept hk))
  have HT := Lib.hid (fun w1 (hk : Kept (fun _ => False) W w1) => refScan_any ao c l (by omega) hcap w1 (HB.kept hk))
  have HLB := Lib.hid HB.lt
  obtain ⟨N, hN⟩ : ∃ N, N = l.length := ⟨_, rfl⟩
  have HNE := Lib.hid hN
  rw [← hN] at HF HG HS HT c1 hl ⊢
  have hN3 : N ≤ 3000 := by omega
  clear hF hG HB HN hN hcap
  go_enter Tryd.func5, Tryd.ntmps5
  go_upto_region 9 with (first
    | (go_at_call 8; refine HA.out.mono ?_; rintro e w1 ⟨rfl, hk1⟩; have H1 := Lib.hid hk1; clear hk1)
    | (go_at_call 12; refine (HF.out _ H1.out).mono ?_; intro e w2 h1; obtain ⟨pa, pc, rfl, hp, hk⟩ := h1; have HP := Lib.hid hp; have H2 := Lib.hid (H1.out.trans hk); clear hp hk)
    | (go_at_call 13; refine (HG.out _ H2.out).mono ?_; intro e w3 h1; obtain ⟨ga, gc, rfl, hg, hk⟩ := h1; have HGR := Lib.hid hg; have HP3 := Lib.hid (HP.out.kept hk); have H3 := Lib.hid (H2.out.trans hk); have HA3 := Lib.hid (heap_alloc_new w3 (.cells #[.slice ga Z gc, .int .i64 (n0 : Int), .int .i64 (e0 : Int)] 33)); have H3A := Lib.hid (H3.out.alloc (.cells #[.slice ga Z gc, .int .i64 (n0 : Int), .int .i64 (e0 : Int)] 33)); clear hg hk)
    | (go_at_call 14; refine (HS.out _ H3A.out).mono ?_; intro e w4 h1; obtain ⟨vl, vs, Ls, u, n4, hr, rfl, hown, hrows, hk⟩ := h1; have HSR := Lib.hid hr; obtain ⟨al, cl, rfl⟩ := ownsRow_slice hown; have HO4 := Lib.hid hown; have HR4 := Lib.hid hrows; have K4 := Lib.hid hk; have H4 := Lib.hid (H3A.out.trans hk); clear hr hown hrows hk)
    | (go_at_call 15; refine (HT.out _ H4.out).mono ?_; intro e w5 h1; obtain ⟨vr, L2, u2, n2, hr2, rfl, hrows2, hk⟩ := h1; obtain ⟨rfl, rfl, rfl⟩ := HSR.out.fn hr2; have HR5 := Lib.hid hrows2; obtain ⟨ar, cr, rfl, _⟩ := hrows2; have K5 := Lib.hid hk; have H5 := Lib.hid (H4.out.trans hk); clear hr2 hk))
  have hsl := HSR.out.len
  rw [← HNE.out] at hsl
  have R6 := Lib.hid ((Kept.refl (fun _ => False) w5).alloc (.cells #[.slice ar Ls.length cr, .int .i64 (u : Int), .int .i64 (n4 : Int)] 39))
  have X6 := heap_alloc_new w5 (.cells #[.slice ar Ls.length cr, .int .i64 (u : Int), .int .i64 (n4 : Int)] 39)
  have KG := Lib.hid ((K4.out.trans K5.out).trans R6.out)
  have G6 := KG.out.same HA3.out (fun x => x)
  have K36 := Lib.hid (((Kept.refl (fun _ => False) w3).alloc (.cells #[.slice ga Z gc, .int .i64 (n0 : Int), .int .i64 (e0 : Int)] 33)).trans KG.out)
  have qa := conv8 (HP3.out.kept K36.out)
  have qb := conv8 (HGR.out.kept K36.out)
  have hrl := HR4.out.length
  have RA : RowsAt w5 (.slice al vs.length cl) Ls := (own_RowsAt (HSR.out.lt HLB.out) HO4.out HR4.out).kept K5.out
  have HSM := Lib.hid (same_any _ _ Ls (by omega) _ (RA.kept R6.out) (HR5.out.kept R6.out))
  have H6 := Lib.hid (H5.out.trans R6.out)
  obtain ⟨w6, hw6⟩ : ∃ w6, w6 = w5.alloc (.cells #[.slice ar Ls.length cr, .int .i64 (u : Int), .int .i64 (n4 : Int)] 39) := ⟨_, rfl⟩
  rw [← hw6] at X6 G6 qa qb HSM H6 ⊢
  have x0 : w6.cell? ⟨w5.heap.size, 0, none⟩ = some (.slice ar Ls.length cr) := by rw [cell_of_row _ _ 0 _ _ _ X6]; rfl
  have x1 : w6.cell? ⟨w5.heap.size, 1, none⟩ = some (.int .i64 (u : Int)) := by rw [cell_of_row _ _ 1 _ _ _ X6]; rfl
  have x2 : w6.cell? ⟨w5.heap.size, 2, none⟩ = some (.int .i64 (n4 : Int)) := by rw [cell_of_row _ _ 2 _ _ _ X6]; rfl
  have g0 : w6.cell? ⟨w3.heap.size, 0, none⟩ = some (.slice ga Z gc) := by rw [cell_of_row _ _ 0 _ _ _ G6]; rfl
  have g1 : w6.cell? ⟨w3.heap.size, 1, none⟩ = some (.int .i64 (n0 : Int)) := by rw [cell_of_row _ _ 1 _ _ _ G6]; rfl
  have g2 : w6.cell? ⟨w3.heap.size, 2, none⟩ = some (.int .i64 (e0 : Int)) := by rw [cell_of_row _ _ 2 _ _ _ G6]; rfl
  have q1 : ((n0 : Int) == (n0 : Int)) = true := beq_iff_eq.2 rfl
  have q2 : ((e0 : Int) == (e0 : Int)) = true := beq_iff_eq.2 rfl
  have q3 : ((u : Int) == (u : Int)) = true := beq_iff_eq.2 rfl
  have q4 : ((n4 : Int) == (n4 : Int)) = true := beq_iff_eq.2 rfl
  have y1 : ∀ w', Kept (fun _ => False) w6 w' → w'.cell? ⟨w5.heap.size, 1, none⟩ = some (.int .i64 (u : Int)) := fun w' hk => hk.cell x1 (fun x => x)
  have y2 : ∀ w', Kept (fun _ => False) w6 w' → w'.cell? ⟨w5.heap.size, 2, none⟩ = some (.int .i64 (n4 : Int)) := fun w' hk => hk.cell x2 (fun x => x)
  have Y1 := Lib.hid y1
  have Y2 := Lib.hid y2
  clear X6 G6 hw6 RA hrl hsl y1 y2
  go_wp2_with (go_at_call 16; refine HSM.out.mono ?_; rintro e w7 ⟨rfl, hk⟩; have HK7 := Lib.hid hk; have z1 := Y1.out _ hk; have z2 := Y2.out _ hk; clear hk)
  go_ret
  exact ⟨rfl, H6.out.trans HK7.out⟩

theorem frameReads_walk (ao : Option Addr) (len cap : Nat) (zs : List Int) (W : World) (hrow : IsRow .u8 W ao len cap zs) (HN : Nibs W) :
    Calls Tryd.prog 5 #[.slice ao len cap] W fun e w' => e = .returned (.bool true) ∧ Kept (fun _ => False) W w' := by
  have hcap : len ≤ cap := by
    rcases hrow with ⟨_, h1, h2, _⟩ | ⟨x, _, h1, _⟩
    · omega
    · exact h1
  obtain ⟨l, rfl, HB, _⟩ := hrow.row8
  by_cases h1 : (3000 : Int) < (l.length : Int)
  · exact reads_big ao cap l.length W HN (decide_eq_true h1)
  · exact reads_small ao cap l W HB hcap HN (decide_eq_false h1)
end Go.Proofs.YtmmaickpkpkajaaDoor
