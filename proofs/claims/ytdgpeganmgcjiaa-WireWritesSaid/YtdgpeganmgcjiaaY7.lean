/- package limnographref30: Few; package wire: check, clone. -/
import Derived.Test.YtdgpeganmgcjiaaY6
namespace Go.Proofs.Ytdgpeganmgcjiaa
open Go.RowKit
attribute [local go_sem ↓] Go.wp_at_zero Go.wp_at_succ

def fewF (L : List PR) : Bool := decide (L.length ≤ 60) && L.all fun p => decide (p.r.b.length ≤ 300)
theorem fewF_true {L : List PR} (h : fewF L = true) : L.length ≤ 60 ∧ ∀ p ∈ L, p.r.b.length ≤ 300 := by
  unfold fewF at h
  simpa using h

set_option maxHeartbeats 1000000 in
theorem few30_any (ao : Option Addr) (c : Nat) (L : List PR) (w : World) (hr : FldsAt w ao L) (hl : L.length ≤ 9223372036854775807) :
    Calls Try.prog 7 #[.slice ao L.length c] w fun e w' => e = .returned (.bool (fewF L)) ∧ w = w' := by
  by_cases h1 : 60 < L.length
  · have HF : Hid (fewF L = false) := by show _ = _; unfold fewF; rw [decide_eq_false (by omega)]; rfl
    have q1 : (60 : Int) < (L.length : Int) := by omega
    go_enter Try.func7, Try.ntmps7
    go_wp2
    go_ret
    exact ⟨by rw [HF.out]; rfl, rfl⟩
  · have q1 : ¬ (60 : Int) < (L.length : Int) := by omega
    have HF : Hid (fewF L = L.all fun p => decide (p.r.b.length ≤ 300)) := by show _ = _; unfold fewF; rw [decide_eq_true (by omega)]; rfl
    have HR := Lib.hid hr
    clear hr
    go_enter Try.func7, Try.ntmps7
    go_wp2
    go_loopg [3] L.length (fun g s3 wr => ∃ i : Nat, i ≤ L.length ∧ g = L.length - i ∧ s3 = .int .i64 i ∧ (L.all fun p => decide (p.r.b.length ≤ 300)) = ((L.drop i).all fun p => decide (p.r.b.length ≤ 300)) ∧ w = wr)
    case atStart => exact ⟨0, Nat.zero_le _, rfl, rfl, rfl, rfl⟩
    case round =>
      obtain ⟨i, hil, rfl, rfl, hall, rfl⟩ := hrel
      have HALL := Lib.hid hall
      clear hall
      by_cases hd : i < L.length
      · obtain ⟨g, o, rfl, hrec⟩ := HR.out.at_ (by omega)
        have hi' := hrec i L[i] (List.getElem?_eq_getElem hd)
        have hcb := hi'.c3
        have hdrop : (L.drop i) = L[i] :: L.drop (i + 1) := List.drop_eq_getElem_cons hd
        obtain ⟨r, hrr⟩ : ∃ r, r = L[i] := ⟨_, rfl⟩
        rw [← hrr] at hcb hdrop
        obtain ⟨B, hL⟩ : ∃ B, B = r.r.b.length := ⟨_, rfl⟩
        rw [← hL] at hcb
        have hdi : (i : Int) < (L.length : Int) := by omega
        have hdi0 : (0 : Int) ≤ (i : Int) := by omega
        have HD := Lib.hid hd
        have HDR := Lib.hid hdrop
        have HLL := Lib.hid hL
        by_cases h40 : 300 < B
        · have q2 : (300 : Int) < (B : Int) := by omega
          have H3 : Hid (fewF L = false) := by
            show _ = _
            rw [HF.out, HALL.out, HDR.out, List.all_cons, decide_eq_false (by rw [← HLL.out]; omega)]; rfl
          clear hrec hi' hdrop hrr hL hd
          go_wp2
          go_ret
          exact ⟨by rw [H3.out]; rfl, rfl⟩
        · have q2 : ¬ (300 : Int) < (B : Int) := by omega
          have H3 : Hid ((L.all fun p => decide (p.r.b.length ≤ 300)) = ((L.drop (i + 1)).all fun p => decide (p.r.b.length ≤ 300))) := by
            show _ = _
            rw [HALL.out, HDR.out, List.all_cons, decide_eq_true (by rw [← HLL.out]; omega)]; rfl
          clear hrec hi' hdrop hrr hL hd
          go_wp2
          go_roundg (L.length - (i + 1))
          case measure => have := HD.out; omega
          case rel => exact ⟨i + 1, HD.out, rfl, by go_num, H3.out, rfl⟩
      · obtain rfl : i = L.length := by omega
        have H3 : Hid (fewF L = true) := by show _ = _; rw [HF.out, HALL.out, List.drop_length]; rfl
        go_wp2
        go_ret
        exact ⟨by rw [H3.out]; rfl, rfl⟩

def badI (n : Nat) : Ending := .returned (.int .i64 (n : Int))
theorem badF_A (p : FR) (h : p.num < 1 ∨ 536870911 < p.num) : badF p = 1 := by unfold badF; rw [if_pos h]
theorem badF_B (p : FR) (h : ¬ (p.num < 1 ∨ 536870911 < p.num)) (h2 : p.ty < 0 ∨ 2 < p.ty) : badF p = 14 := by unfold badF; rw [if_neg h, if_pos h2]
theorem badF_C (p : FR) (h : ¬ (p.num < 1 ∨ 536870911 < p.num)) (h2 : ¬ (p.ty < 0 ∨ 2 < p.ty)) (h3 : (p.ty = 2 ∧ p.v ≠ 0) ∨ (p.ty ≠ 2 ∧ 0 < p.b.length)) : badF p = 3 := by unfold badF; rw [if_neg h, if_neg h2, if_pos h3]
theorem badF_D (p : FR) (h : ¬ (p.num < 1 ∨ 536870911 < p.num)) (h2 : ¬ (p.ty < 0 ∨ 2 < p.ty)) (h3 : ¬ ((p.ty = 2 ∧ p.v ≠ 0) ∨ (p.ty ≠ 2 ∧ 0 < p.b.length))) : badF p = 0 := by unfold badF; rw [if_neg h, if_neg h2, if_neg h3]
set_option maxHeartbeats 1000000 in
theorem wcheck_any (p : PR) (w : World) :
    Calls Try.prog 20 #[.agg #[.int .i64 p.r.num, .int .i64 p.r.ty, .int .u64 (p.r.v : Int), .slice p.a p.r.b.length p.c]] w fun e w' => e = badI (badF p.r) ∧ Kept (fun _ => False) w w' := by
  obtain ⟨⟨num, ty, v, b⟩, a, c⟩ := p
  simp only
  obtain ⟨n, hn⟩ : ∃ n, n = b.length := ⟨_, rfl⟩
  obtain ⟨X, hX⟩ : ∃ X, X = badF ⟨num, ty, v, b⟩ := ⟨_, rfl⟩
  rw [← hX, ← hn]
  have cA := badF_A ⟨num, ty, v, b⟩
  have cB := badF_B ⟨num, ty, v, b⟩
  have cC := badF_C ⟨num, ty, v, b⟩
  have cD := badF_D ⟨num, ty, v, b⟩
  simp only at cA cB cC cD
  rw [← hX] at cA cB cC cD
  rw [← hn] at cC cD
  clear hX hn
  by_cases h1 : num < 1 ∨ 536870911 < num
  · obtain rfl := cA h1
    clear cA cB cC cD
    rcases (show num < 1 ∨ ¬ num < 1 ∧ 536870911 < num by omega) with q1 | ⟨q1, q2⟩ <;> clear h1 <;>
    · go_enter Try.func20, Try.ntmps20
      go_wp2
      go_ret
      exact ⟨rfl, (Kept.refl _ _).alloc _⟩
  · have q1 : ¬ num < 1 := by omega
    have q2 : ¬ 536870911 < num := by omega
    by_cases h2 : ty < 0 ∨ 2 < ty
    · obtain rfl := cB h1 h2
      clear cA cB cC cD h1
      rcases (show ty < 0 ∨ ¬ ty < 0 ∧ 2 < ty by omega) with q3 | ⟨q3, q4⟩ <;> clear h2 <;>
      · go_enter Try.func20, Try.ntmps20
        go_wp2
        go_ret
        exact ⟨rfl, (Kept.refl _ _).alloc _⟩
    · have q3 : ¬ ty < 0 := by omega
      have q4 : ¬ 2 < ty := by omega
      by_cases h3 : (ty = 2 ∧ v ≠ 0) ∨ (ty ≠ 2 ∧ 0 < n)
      · obtain rfl := cC h1 h2 h3
        clear cA cB cC cD h1 h2
        rcases (show ((ty == 2) = true ∧ (ty != 2) = false ∧ ((v : Int) != 0) = true) ∨ ((ty == 2) = false ∧ (ty != 2) = true ∧ (0 : Int) < (n : Int)) by
          rcases h3 with ⟨a, b⟩ | ⟨a, b⟩
          · exact .inl ⟨beqT a, bneF a, bneT (by omega)⟩
          · exact .inr ⟨beqF a, bneT a, by omega⟩) with ⟨r1, r2, r3⟩ | ⟨r1, r2, r3⟩ <;> clear h3 <;>
        · go_enter Try.func20, Try.ntmps20
          go_wp2
          go_ret
          exact ⟨rfl, (Kept.refl _ _).alloc _⟩
      · obtain rfl := cD h1 h2 h3
        clear cA cB cC cD h1 h2
        rcases (show ((ty == 2) = true ∧ (ty != 2) = false ∧ ((v : Int) != 0) = false) ∨ ((ty == 2) = false ∧ (ty != 2) = true ∧ ¬ (0 : Int) < (n : Int)) by
          by_cases e : ty = 2
          · exact .inl ⟨beqT e, bneF e, bneF (by
              by_cases hv : v = 0
              · omega
              · exact absurd (.inl ⟨e, hv⟩) h3)⟩
          · refine .inr ⟨beqF e, bneT e, ?_⟩
            intro h0
            exact h3 (.inr ⟨e, by omega⟩)) with ⟨r1, r2, r3⟩ | ⟨r1, r2, r3⟩ <;> clear h3 <;>
        · go_enter Try.func20, Try.ntmps20
          go_wp2
          go_ret
          exact ⟨rfl, (Kept.refl _ _).alloc _⟩

theorem four_set3 {w : World} {g : Nat} {a b c d x : Value} {T : TypeId} (h : w.heap[g]? = some (.cells #[a, b, c, d] T (0, 0))) : (w.setCell ⟨g, 3, none⟩ x).heap[g]? = some (.cells #[a, b, c, x] T (0, 0)) := by
  have h1 := heap_setCell_same _ _ 3 _ _ x h
  simpa using h1
theorem fld_info : (Try.prog.info? 40).map (·.size) = some 4 := by kernel_rfl
theorem box4 {w : World} {g : Nat} {a b c d : Value} {T : TypeId} (h : w.heap[g]? = some (.cells #[a, b, c, d] T (0, 0))) : (w.cell? ⟨g, 0, none⟩ = some a ∧ w.cell? ⟨g, 1, none⟩ = some b ∧ w.cell? ⟨g, 2, none⟩ = some c ∧ w.cell? ⟨g, 3, none⟩ = some d) ∧ w.frozen? ⟨g, 0, none⟩ = false ∧ w.frozen? ⟨g, 1, none⟩ = false ∧ w.frozen? ⟨g, 2, none⟩ = false ∧ w.frozen? ⟨g, 3, none⟩ = false := by
  refine ⟨⟨?_, ?_, ?_, ?_⟩, ?_, ?_, ?_, ?_⟩
  · rw [cell_of_row _ _ 0 _ _ _ h]; rfl
  · rw [cell_of_row _ _ 1 _ _ _ h]; rfl
  · rw [cell_of_row _ _ 2 _ _ _ h]; rfl
  · rw [cell_of_row _ _ 3 _ _ _ h]; rfl
  all_goals simp [World.frozen?, h]
theorem four_set {w : World} {g : Nat} {a b c d x y z u : Value} {T : TypeId} (h : w.heap[g]? = some (.cells #[a, b, c, d] T (0, 0))) : ((((w.setCell ⟨g, 0, none⟩ x).setCell ⟨g, 1, none⟩ y).setCell ⟨g, 2, none⟩ z).setCell ⟨g, 3, none⟩ u).heap[g]? = some (.cells #[x, y, z, u] T (0, 0)) := by
  have h1 := heap_setCell_same _ _ 0 _ _ x h
  have h2 := heap_setCell_same _ _ 1 _ _ y h1
  have h3 := heap_setCell_same _ _ 2 _ _ z h2
  have h4 := heap_setCell_same _ _ 3 _ _ u h3
  simpa using h4
theorem four_kept {S : Nat → Prop} {W w : World} {g : Nat} {x y z u : Value} (h : Kept S W w) (hg : W.heap.size ≤ g ∨ S g) : Kept S W ((((w.setCell ⟨g, 0, none⟩ x).setCell ⟨g, 1, none⟩ y).setCell ⟨g, 2, none⟩ z).setCell ⟨g, 3, none⟩ u) := by
  have hh : ∀ (o : Nat), (⟨g, o, none⟩ : Addr).block < W.heap.size → S (⟨g, o, none⟩ : Addr).block := fun o hlt => by
    simp only at hlt ⊢
    rcases hg with h | h
    · omega
    · exact h
  exact (((h.setCell (hh 0) x).setCell (hh 1) y).setCell (hh 2) z).setCell (hh 3) u
theorem cell_other {w : World} {g k : Nat} {o : Nat} {x : Value} (h : k ≠ g) : (w.setCell ⟨g, o, none⟩ x).heap[k]? = w.heap[k]? := Below.heap_setCell _ _ _ _ (fun e => h e)
theorem own_fresh8 {W w : World} {a : Option Addr} {n c : Nat} {xs : List Value} (h : Mine W w 5 (.slice a n c) xs) : ∀ x, a = some x → W.heap.size ≤ x.block ∧ x.block < w.heap.size := by
  intro x hx
  subst hx
  have := ownsRow_lt h.own (k := x.block) rfl
  omega
set_option maxHeartbeats 1000000 in
theorem wcloneF_any (p : PR) (w : World) (hp : FldOk w p) (hl : p.r.b.length ≤ 100000000000) :
    Calls Try.prog 25 #[.agg #[.int .i64 p.r.num, .int .i64 p.r.ty, .int .u64 (p.r.v : Int), .slice p.a p.r.b.length p.c]] w fun e w' => ∃ a c, e = .returned (.agg #[.int .i64 p.r.num, .int .i64 p.r.ty, .int .u64 (p.r.v : Int), .slice a p.r.b.length c]) ∧ FldOk w' ⟨p.r, a, c⟩ ∧ (∀ x, a = some x → w.heap.size ≤ x.block ∧ x.block < w'.heap.size) ∧ Kept (fun _ => False) w w' := by
  obtain ⟨⟨num, ty, v, b⟩, a, c⟩ := p
  simp only at hl ⊢
  have HP := Lib.hid hp
  have hk0 := (((Kept.refl (fun _ => False) w).alloc (.cells #[.int .i64 num, .int .i64 ty, .int .u64 (v : Int), .slice a b.length c] 40)).alloc (.cells #[.int .i64 0, .int .i64 0, .int .u64 0, .slice none 0 0] 40))
  have h1 : ((w.alloc (.cells #[.int .i64 num, .int .i64 ty, .int .u64 (v : Int), .slice a b.length c] 40)).alloc (.cells #[.int .i64 0, .int .i64 0, .int .u64 0, .slice none 0 0] 40)).heap[w.heap.size]? = some (.cells #[.int .i64 num, .int .i64 ty, .int .u64 (v : Int), .slice a b.length c] 40 (0, 0)) :=
    ((Kept.refl (fun _ => False) _).alloc _).same (heap_alloc_new w _) (fun x => x)
  have h2 : ((w.alloc (.cells #[.int .i64 num, .int .i64 ty, .int .u64 (v : Int), .slice a b.length c] 40)).alloc (.cells #[.int .i64 0, .int .i64 0, .int .u64 0, .slice none 0 0] 40)).heap[w.heap.size + 1]? = some (.cells #[.int .i64 0, .int .i64 0, .int .u64 0, .slice none 0 0] 40 (0, 0)) := by
    have := heap_alloc_new (w.alloc (.cells #[.int .i64 num, .int .i64 ty, .int .u64 (v : Int), .slice a b.length c] 40)) (.cells #[.int .i64 0, .int .i64 0, .int .u64 0, .slice none 0 0] 40)
    simpa using this
  obtain ⟨w0, hw0⟩ : ∃ w0, w0 = (w.alloc (.cells #[.int .i64 num, .int .i64 ty, .int .u64 (v : Int), .slice a b.length c] 40)).alloc (.cells #[.int .i64 0, .int .i64 0, .int .u64 0, .slice none 0 0] 40) := ⟨_, rfl⟩
  rw [← hw0] at h1 h2 hk0
  have HK0 := Lib.hid hk0
  have H1 := Lib.hid h1
  have H2 := Lib.hid h2
  have HW0 := Lib.hid hw0
  have HBY := Lib.hid ((hp.kept hk0).by_)
  have HL := Lib.hid hl
  clear hp hk0 h1 h2 hw0 hl
  go_enter Try.func25, Try.ntmps25
  go_upto_region 1 with fail
  rw [← HW0.out]
  have hb1 := box4 H1.out
  go_wp2_with fail
  refine (wclone_any a c b w0 HBY.out HL.out).mono ?_
  rintro e w1 ⟨a1, c1, rfl, hm1⟩
  have HM1 := Lib.hid hm1
  have H1' := Lib.hid (hm1.kept.same H1.out (fun x => x))
  have H2' := Lib.hid (hm1.kept.same H2.out (fun x => x))
  have hb2 := box4 H1'.out
  clear hm1 hb1
  go_upto_region 2 with fail
  have H3 := Lib.hid (four_set3 (x := .slice a1 b.length c1) H1'.out)
  have H4 := Lib.hid ((cell_other (w := w1) (g := w.heap.size) (k := w.heap.size + 1) (o := 3) (x := .slice a1 b.length c1) (by omega)).trans H2'.out)
  have HK3 := Lib.hid ((HK0.out.trans HM1.out.kept).setCell (p := ⟨w.heap.size, 3, none⟩) (fun hlt => by simp only at hlt; omega) (.slice a1 b.length c1))
  have HM3 := Lib.hid (show By (w1.setCell ⟨w.heap.size, 3, none⟩ (.slice a1 b.length c1)) a1 c1 b from
    (By.ofMine HM1.out HP.out.by_.lt).keptS ((Kept.refl (fun k => k = w.heap.size) w1).setCell (p := ⟨w.heap.size, 3, none⟩) (fun _ => rfl) _) (fun _ x hx => by
      have := own_fresh8 HM1.out x hx
      have h0 := HK0.out
      have h1 := (Array.getElem?_eq_some_iff.1 H1.out).1
      omega))
  have HKS := Lib.hid ((Kept.refl (fun k => k = w.heap.size) w1).setCell (p := ⟨w.heap.size, 3, none⟩) (fun _ => rfl) (.slice a1 b.length c1)).size
  obtain ⟨ws, hws⟩ : ∃ ws, ws = w1.setCell ⟨w.heap.size, 3, none⟩ (.slice a1 b.length c1) := ⟨_, rfl⟩
  rw [← hws] at H3 H4 HK3 HM3 HKS ⊢
  clear hws hb2
  have hb3 := box4 H3.out
  have hb4 := box4 H4.out
  go_wp2
  refine bodyPost_ret (v := .agg #[.int .i64 num, .int .i64 ty, .int .u64 (v : Int), .slice a1 b.length c1]) ?_ rfl ?_
  · exact results_cell_row Try.results25 _ _ (w.heap.size + 1) 40 _ (0, 0) _ rfl (four_set H4.out) Try.underlying40 rfl fld_info
  · have hk := four_kept (S := fun _ => False) (x := .int .i64 num) (y := .int .i64 ty) (z := .int .u64 (v : Int)) (u := .slice a1 b.length c1) HK3.out (g := w.heap.size + 1) (.inl (by omega))
    refine ⟨a1, c1, rfl, ⟨HP.out.num, HP.out.ty, HP.out.v, ?_⟩, ?_, hk⟩
    · refine HM3.out.keptS (four_kept (S := fun k => k = w.heap.size + 1) (Kept.refl _ _) (.inr rfl)) (fun _ x hx => ?_)
      have := own_fresh8 HM1.out x hx
      have h1 := (Array.getElem?_eq_some_iff.1 H2.out).1
      have h2 := HK0.out.size
      omega
    · intro x hx
      have h1 := own_fresh8 HM1.out x hx
      have h2 := HK0.out.size
      have h3 := HKS.out
      have h4 := (four_kept (S := fun k => k = w.heap.size + 1) (x := .int .i64 num) (y := .int .i64 ty) (z := .int .u64 (v : Int)) (u := .slice a1 b.length c1) (Kept.refl _ ws) (.inr rfl)).size
      exact ⟨by omega, by omega⟩
end Go.Proofs.Ytdgpeganmgcjiaa
