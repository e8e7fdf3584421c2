/- Layer 19: the document's Records; the walk of WalRecords. -/
import Derived.Test.YtficodklidaheaaDoorWG
import Derived.Test.YtficodklidaheaaDoorF22
namespace Go.Proofs.YtficodklidaheaaDoor
open Go.RowKit
attribute [local go_sem ↓] Go.wp_at_zero Go.wp_at_succ

theorem row8_keptBox {w w' : World} {q : Nat} {T : TypeId} {cs : Array Value} {v : Value} {l : List Nat} (h : Row8 w v l) (hb : BoxAt w q T cs) (hn : ∀ (i : Nat) (z : Int), cs[i]? ≠ some (Value.int .u8 z)) (k : Kept (fun j => j = q) w w') : Row8 w' v l := by
  obtain ⟨ao, c, e, hlt, hc⟩ := h
  refine ⟨ao, c, e, hlt, fun j hj => ?_⟩
  obtain ⟨a, ha, h1⟩ := hc j hj
  refine ⟨a, ha, k.cell h1 (fun x => ?_)⟩
  have hs := World.cell?_spot h1
  obtain ⟨b, o, sp⟩ := a
  have x' : b = q := by rw [add_block] at x; exact x
  subst x'
  generalize hg : (⟨b, o, sp⟩ : Addr).add j = a2 at h1 hs
  obtain ⟨b2, o2, sp2⟩ := a2
  have hs' : sp2 = none := hs
  subst hs'
  have hb2 : b2 = b := by have := congrArg Addr.block hg; rw [add_block] at this; exact this.symm
  subst hb2
  rw [cell_of_row _ _ o2 _ _ _ hb] at h1
  exact hn o2 _ h1
theorem RowsV.keptBox {w w' : World} {q : Nat} {T : TypeId} {cs : Array Value} {vs : List Value} {Ls : List (List Nat)} (h : RowsV w vs Ls) (hb : BoxAt w q T cs) (hn : ∀ (i : Nat) (z : Int), cs[i]? ≠ some (Value.int .u8 z)) (k : Kept (fun j => j = q) w w') : RowsV w' vs Ls :=
  ⟨h.1, fun i hi => by
    obtain ⟨ai, ci, h1, h2⟩ := h.2 i hi
    exact ⟨ai, ci, h1, row8_keptBox h2 hb hn k⟩⟩
theorem ScanR.few {l : List Nat} {Ls : List (List Nat)} {u e : Nat} (h : ScanR l Ls u e) : Ls.length ≤ l.length := by
  induction h with
  | done => exact Nat.le_refl _
  | bad l h he => exact Nat.zero_le _
  | more l Ls u e h hr ih =>
    have := firstE_size l h
    rw [List.length_drop] at ih
    rw [List.length_cons]
    omega
/-- What the document's Records answers. -/
def RefRec (w : World) (l : List Nat) (e : Ending) (w' : World) : Prop :=
  ∃ Ls u n, ScanR l Ls u n ∧ Kept (fun _ => False) w w' ∧
    (((n = 0 ∨ n = 2) ∧ ∃ v, e = .returned (.agg #[v, .int .i64 ((u : Nat) : Int), .int .i64 0]) ∧ RowsAt w' v Ls) ∨
     ((n ≠ 0 ∧ n ≠ 2) ∧ e = .returned (.agg #[.slice none 0 0, .int .i64 0, .int .i64 15])))
theorem got19_info : (Tryd.prog.info? 43).map (·.size) = some 3 := by kernel_rfl
set_option maxRecDepth 100000 in
set_option maxHeartbeats 4000000 in
theorem refRecords_any (ao : Option Addr) (c : Nat) (l : List Nat) (hl : l.length ≤ 1000000000) (hcap : l.length ≤ c) (w : World) (HB : Row8 w (.slice ao l.length c) l) :
    Calls Tryd.prog 22 #[.slice ao l.length c] w (RefRec w l) := by
  obtain ⟨w1, hw1⟩ : ∃ w1, w1 = w.alloc (.cells #[.slice none 0 0, .int .i64 0, .int .i64 0] 43) := ⟨_, rfl⟩
  have k1 : Kept (fun _ => False) w w1 := by rw [hw1]; exact (Kept.refl _ _).alloc _
  have b1 : BoxAt w1 w.heap.size 43 #[.slice none 0 0, .int .i64 0, .int .i64 0] := by rw [hw1]; exact BoxAt.new _ _ _
  have HS := Lib.hid (refScan_any ao c l hl hcap w1 (HB.kept k1))
  have HW1 := Lib.hid hw1
  have HB1 := Lib.hid (And.intro b1 k1)
  obtain ⟨m, hm⟩ : ∃ m, m = l.length := ⟨_, rfl⟩
  rw [← hm] at HS ⊢
  clear hw1 k1 b1 hm hl hcap HB
  go_enter Tryd.func22, Tryd.ntmps22
  go_upto_region 1 with fail
  rw [← HW1.out]
  go_wp2_with fail
  refine HS.out.mono ?_
  rintro e w2 ⟨v, Ls, u, n, hsc, rfl, hrows, hk, vs, hown, hrv⟩
  obtain ⟨va, vc, hv, hrest⟩ := hrows
  subst hv
  obtain ⟨q, hq⟩ : ∃ q, q = Ls.length := ⟨_, rfl⟩
  have HV : Hid (RowsAt w2 (.slice va q vc) Ls) := Lib.hid ⟨va, vc, by rw [hq], hrest⟩
  rw [← hq]
  obtain ⟨w3, hw3⟩ : ∃ w3, w3 = w2.alloc (.cells #[.slice va q vc, .int .i64 ((u : Nat) : Int), .int .i64 ((n : Nat) : Int)] 34) := ⟨_, rfl⟩
  obtain ⟨g, hg⟩ : ∃ g, g = w2.heap.size := ⟨_, rfl⟩
  have k3 : Kept (fun _ => False) w2 w3 := by rw [hw3]; exact (Kept.refl _ _).alloc _
  have b3 : BoxAt w3 g 34 #[.slice va q vc, .int .i64 ((u : Nat) : Int), .int .i64 ((n : Nat) : Int)] := by rw [hw3, hg]; exact BoxAt.new _ _ _
  have HR3 := Lib.hid (HB1.out.1.kept (hk.trans k3) (fun x => x))
  have HK3 := Lib.hid (HB1.out.2.trans (hk.trans k3))
  have HV3 : Hid (∀ w', Kept (fun k => k = w.heap.size) w3 w' → RowsAt w' (.slice va q vc) Ls) := Lib.hid (fun w' k => by
    have ho := k.owns (k3.owns hown (fun _ _ x => x)) (fun j e x => by have h9 := (ownsRow_lt hown e).2; have h10 := HB1.out.1.lt; omega)
    rw [hq]
    exact (hrv.keptBox HB1.out.1 (fun i z => by
      match i with
      | 0 => simp
      | 1 => simp
      | 2 => simp
      | i + 3 => simp) (((hk.trans k3).mono (fun _ _ x => x.elim)).trans k)).at_ (Kept.refl _ _) ho)
  have HSC := Lib.hid hsc
  have HW3 := Lib.hid (And.intro hw3 hg)
  obtain ⟨z, hz⟩ : ∃ z : Int, z = ((n : Nat) : Int) := ⟨_, rfl⟩
  obtain ⟨x, hx⟩ : ∃ x : Int, x = ((u : Nat) : Int) := ⟨_, rfl⟩
  rw [← hz, ← hx] at HW3 b3
  rw [← hz, ← hx]
  have HX := Lib.hid hx
  have d0 := b3.cell (i := 0) (u := .slice va q vc) rfl
  have d1 := b3.cell (i := 1) (u := .int .i64 x) rfl
  have d2 := b3.cell (i := 2) (u := .int .i64 z) rfl
  have r0 := HR3.out.cell (i := 0) (u := .slice none 0 0) rfl
  have r1 := HR3.out.cell (i := 1) (u := .int .i64 0) rfl
  have r2 := HR3.out.cell (i := 2) (u := .int .i64 0) rfl
  have f0 := HR3.out.fz 0
  have f1 := HR3.out.fz 1
  have f2 := HR3.out.fz 2
  clear hrest hq hw3 hg k3 b3 hk hsc hx hown hrv
  by_cases h0 : n = 0 ∨ n = 2
  · have HN := Lib.hid h0
    have HF := Lib.hid (show Kept (fun k => k = w.heap.size) w3 (((w3.setCell ⟨w.heap.size, 0, none⟩ (.slice va q vc)).setCell ⟨w.heap.size, 1, none⟩ (.int .i64 x)).setCell ⟨w.heap.size, 2, none⟩ (.int .i64 0)) from ((kept_set _ _ _ _).trans (kept_set _ _ _ _)).trans (kept_set _ _ _ _))
    have hzz : z = 0 ∨ z = 2 := by omega
    clear h0 hz
    rcases hzz with rfl | rfl
    all_goals (
      go_upto_region 2 with fail
      rw [← HW3.out.1, ← HW3.out.2]
      go_wp2
      refine bodyPost_ret (v := .agg #[.slice va q vc, .int .i64 x, .int .i64 0]) ?_ rfl ?_
      · exact results_cell_row Tryd.results22 _ _ w.heap.size 43 _ (0, 0) _ rfl (((HR3.out.set 0 _).set 1 _).set 2 _) Tryd.underlying43 rfl got19_info
      · refine ⟨Ls, u, n, HSC.out, (HK3.out.newer HF.out (fun j e => by rw [e]; exact Nat.le_refl _)), .inl ⟨HN.out, _, by rw [HX.out], ?_⟩⟩
        exact HV3.out _ HF.out)
  · have HN : Hid (n ≠ 0 ∧ n ≠ 2) := Lib.hid ⟨fun e => h0 (.inl e), fun e => h0 (.inr e)⟩
    have HF := Lib.hid (show Kept (fun k => k = w.heap.size) w3 (((w3.setCell ⟨w.heap.size, 0, none⟩ (.slice none 0 0)).setCell ⟨w.heap.size, 1, none⟩ (.int .i64 0)).setCell ⟨w.heap.size, 2, none⟩ (.int .i64 15)) from ((kept_set _ _ _ _).trans (kept_set _ _ _ _)).trans (kept_set _ _ _ _))
    have q0 : (z == 0) = false := beq_eq_false_iff_ne.2 (by have := HN.out.1; omega)
    have q2 : (z == 2) = false := beq_eq_false_iff_ne.2 (by have := HN.out.2; omega)
    have q1 : (z != 0) = true := by simp [bne, q0]
    have q3 : (z != 2) = true := by simp [bne, q2]
    clear h0 hz q0 q2
    go_upto_region 2 with fail
    rw [← HW3.out.1, ← HW3.out.2]
    go_wp2
    refine bodyPost_ret (v := .agg #[.slice none 0 0, .int .i64 0, .int .i64 15]) ?_ rfl ?_
    · exact results_cell_row Tryd.results22 _ _ w.heap.size 43 _ (0, 0) _ rfl (((HR3.out.set 0 _).set 1 _).set 2 _) Tryd.underlying43 rfl got19_info
    · exact ⟨Ls, u, n, HSC.out, (HK3.out.newer HF.out (fun j e => by rw [e]; exact Nat.le_refl _)), .inr ⟨HN.out, rfl⟩⟩
end Go.Proofs.YtficodklidaheaaDoor
