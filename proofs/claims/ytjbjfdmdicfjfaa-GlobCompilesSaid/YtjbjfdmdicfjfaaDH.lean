/- The document's layer 32: pieces in memory; plain; where things of a set lie, plainly. -/
import Derived.Test.YtjbjfdmdicfjfaaDG
namespace Go.Proofs.Ytjbjfdmdicfjfaa
open Go.RowKit
attribute [local go_sem ↓] Go.wp_at_zero Go.wp_at_succ

theorem own_unfz {w : World} {B : Nat} {E : TypeId} {g n c s : Nat} {xs : List Value} (h : w.ownsRow B E s (.slice (some ⟨g, 0, none⟩) n c) n xs) (k : Nat) : w.frozen? ⟨g, k, none⟩ = false := by
  rcases h.2 with ⟨e, _⟩ | ⟨g1, cap, cur, e, hg, hb, rest⟩
  · cases e
  · injection e with e1 e2 e3
    injection e1 with e1
    injection e1 with e1
    subst e1
    simp [World.frozen?, hb]
theorem mine_row {W w : World} {E : TypeId} {v : Value} {xs : List Value} (h : Mine W w E v xs) (h0 : 0 < xs.length) : ∃ g cp, v = .slice (some ⟨g, 0, none⟩) xs.length cp := by
  rcases h.own.2 with ⟨_, e⟩ | ⟨g, cap, cur, e, _⟩
  · omega
  · exact ⟨g, cap, e⟩
theorem mine_set {W w : World} {E : TypeId} {g n cp : Nat} {xs : List Value} (h : Mine W w E (.slice (some ⟨g, 0, none⟩) n cp) xs) (j : Nat) (u : Value) : Mine W (w.setCell ⟨g, j, none⟩ u) E (.slice (some ⟨g, 0, none⟩) n cp) (xs.set j u) := by
  obtain ⟨a', c', e⟩ := h.slice
  injection e with e1 e2 e3
  have ho := h.own
  rw [← e2] at ho
  refine ⟨by rw [List.length_set, ← e2]; exact owns_set ho j u, h.kept.setCell (fun hlt => ?_) u⟩
  have := (ownsRow_lt h.own (k := g) rfl).2
  simp only at hlt
  omega
theorem mine_len {W w : World} {E : TypeId} {a : Option Addr} {n cp : Nat} {xs : List Value} (h : Mine W w E (.slice a n cp) xs) : n = xs.length := by
  obtain ⟨a', c', e⟩ := h.slice
  injection e
theorem mine_cell {W w : World} {E : TypeId} {g n cp : Nat} {xs : List Value} (h : Mine W w E (.slice (some ⟨g, 0, none⟩) n cp) xs) {j : Nat} {u : Value} (hu : xs[j]? = some u) : w.cell? ⟨g, j, none⟩ = some u := by
  have := h.own.cells (g := g) rfl j u hu
  rwa [addr_add0] at this
theorem mine_unfz {W w : World} {E : TypeId} {g n cp : Nat} {xs : List Value} (h : Mine W w E (.slice (some ⟨g, 0, none⟩) n cp) xs) (k : Nat) : w.frozen? ⟨g, k, none⟩ = false := by
  have ho := h.own
  rw [← mine_len h] at ho
  exact own_unfz ho k

/-- A piece of the document's, and where its set lies. -/
structure RP where
  p : Pc
  ao : Option Addr
  n : Nat
  cp : Nat
def cellsRP (r : RP) : List Value := [.bool (decide (r.p.k = 3)), .bool (decide (r.p.k = 0)), .slice r.ao r.n r.cp, .int .u8 (r.p.c : Int)]
theorem cfRP : Cf cellsRP 4 := ⟨fun _ => rfl, fun P u hu => by simp [cellsRP] at hu; rcases hu with rfl | rfl | rfl | rfl <;> rfl⟩
/-- Its set lies where it says. -/
def InAt (w : World) (r : RP) : Prop := r.p.k ≠ 3 → r.n = 256 ∧ ∃ g cs, r.ao = some ⟨g, 0, none⟩ ∧ w.heap[g]? = some (.cells cs 4 (0, 0)) ∧ ∀ x, x < 256 → cs[x]? = some (.bool (r.p.hold x))
theorem InAt.keptS {S : Nat → Prop} {w w' : World} {r : RP} (h : InAt w r) (hk : Kept S w w') (hS : ∀ g cs, w.heap[g]? = some (.cells cs 4 (0, 0)) → ¬ S g) : InAt w' r := fun h3 => by
  obtain ⟨hn, g, cs, e, hb, hc⟩ := h h3
  exact ⟨hn, g, cs, e, hk.same hb (hS g cs hb), hc⟩
theorem InAt.kept {w w' : World} {r : RP} (h : InAt w r) (hk : Kept (fun _ => False) w w') : InAt w' r := h.keptS hk (fun _ _ _ x => x)
theorem inAt_mine {W w : World} {g n cp : Nat} {f : Nat → Bool} (h : Mine W w 4 (.slice (some ⟨g, 0, none⟩) n cp) (boV (boF f))) (p : Pc) (hf : ∀ x, x < 256 → p.hold x = f x) : InAt w ⟨p, some ⟨g, 0, none⟩, n, cp⟩ := fun _ => by
  have hn := mine_len h
  rw [boV_length, boF_length] at hn
  refine ⟨hn, ?_⟩
  rcases h.own.2 with ⟨e, _⟩ | ⟨g', cap, cur, e, hg, hb, hle, hm, hs, ht⟩
  · cases e
  · injection e with e1 e2 e3
    injection e1 with e1
    injection e1 with e1
    subst e1
    refine ⟨g, cur, rfl, hb, fun x hx => ?_⟩
    have hx2 : (boV (boF f))[x]? = some (.bool (p.hold x)) := by
      rw [boV_get (by rw [boF_length]; exact hx), boF_get f hx, hf x hx]
    rw [← ht, List.getElem?_take] at hx2
    split at hx2
    · rw [← hx2]; simp
    · cases hx2
structure RP.Ok (r : RP) : Prop where
  k : r.p.k ≤ 3
  c : r.p.c < 256
theorem rp_info (r : RP) : (Try.prog.info? 53).map (·.size) = some (cellsRP r).toArray.size := by
  have e : (Try.prog.info? 53).map (·.size) = some 4 := by kernel_rfl
  rw [e]; rfl
theorem rp_all (r : RP) : (cellsRP r).toArray.all (·.oneCell') = true := by
  rw [Array.all_eq_true_iff_forall_mem]
  intro v hv
  exact cfRP.one r v (by simpa using hv)

set_option maxHeartbeats 1000000 in
theorem rplain_any (c : Nat) (hc : c < 256) (w : World) :
    Calls Try.prog 17 #[.int .u8 (c : Int)] w fun e w' => ∃ g cp, e = .returned (.agg #[.bool false, .bool true, .slice (some ⟨g, 0, none⟩) 256 cp, .int .u8 (c : Int)]) ∧ InAt w' ⟨⟨0, c, noF⟩, some ⟨g, 0, none⟩, 256, cp⟩ ∧ Kept (fun _ => False) w w' := by
  obtain ⟨q, hq⟩ : ∃ q, q = w.heap.size := ⟨_, rfl⟩
  obtain ⟨w1, hw1⟩ : ∃ w1, w1 = w.alloc (.cells #[.bool false, .bool false, .slice none 0 0, .int .u8 0] 53) := ⟨_, rfl⟩
  have hb1 : w1.heap[q]? = some (.cells #[.bool false, .bool false, .slice none 0 0, .int .u8 0] 53 (0, 0)) := by rw [hw1, hq]; exact heap_alloc_new w _
  have HB1 := Lib.hid hb1
  have HW1 := Lib.hid hw1.symm
  have HK1 : Hid (Kept (fun _ => False) w w1) := Lib.hid (by rw [hw1]; exact (Kept.refl _ _).alloc _)
  have HQ := Lib.hid hq
  have HC := Lib.hid hc
  have HNO := Lib.hid (fun w => nothing_any false w)
  clear hb1 hw1 hc
  go_enter Try.func17, Try.ntmps17
  go_upto_region 1 with fail
  rw [HW1.out, ← hq]
  clear hq
  go_wp2_with fail
  refine (HNO.out w1).mono ?_
  rintro e w2 ⟨v, rfl, hm⟩
  obtain ⟨g, cp, rfl⟩ := mine_row hm (by rw [boV_length, boF_length]; omega)
  rw [boV_length, boF_length] at hm ⊢
  have hcell := mine_cell hm (boV_get (l := boF fun _ => false) (j := c) (by rw [boF_length]; exact HC.out))
  have hfz := mine_unfz hm c
  have hcl : (c : Int) < 256 := by have := HC.out; omega
  have hc0 : (0 : Int) ≤ (c : Int) := by omega
  obtain ⟨b0, hb0⟩ : ∃ b, b = (boF fun _ => false).getD c false := ⟨_, rfl⟩
  rw [← hb0] at hcell
  have hm2 := mine_set hm c (.bool true)
  rw [boV_set, boF_set] at hm2
  have hgq : (w2.setCell ⟨g, c, none⟩ (.bool true)).heap[q]? = some (.cells #[.bool false, .bool false, .slice none 0 0, .int .u8 0] 53 (0, 0)) := hm2.kept.same HB1.out (fun x => x)
  have HM2 := Lib.hid hm2
  have HGQ := Lib.hid hgq
  have hi3 := inAt_mine hm2 ⟨0, c, noF⟩ (fun x hx => by
    show decide (c = x) = orF (fun _ => false) c c x
    unfold orF
    rw [Bool.false_or]
    apply decide_eq_decide.2
    omega)
  have HI3 := Lib.hid hi3
  clear hm hm2 hgq hb0 hi3
  go_upto_region 3 with fail
  obtain ⟨w3, hw3⟩ : ∃ w3, w3 = w2.setCell ⟨g, c, none⟩ (.bool true) := ⟨_, rfl⟩
  rw [← hw3] at HM2 HGQ HI3 ⊢
  clear hw3 hcell hfz
  go_wp2_with (refine wpList_store_row rfl 53 (.tmp 2) _ rfl q (cellsRP ⟨⟨0, c, noF⟩, some ⟨g, 0, none⟩, 256, cp⟩).toArray rfl rfl 53 #[.bool false, .bool false, .slice none 0 0, .int .u8 0] HGQ.out (rp_info _) rfl (rp_all _) ?_)
  have hlt : q < w1.heap.size := (Array.getElem?_eq_some_iff.1 HB1.out).1
  refine bodyPost_ret (v := .agg (cellsRP ⟨⟨0, c, noF⟩, some ⟨g, 0, none⟩, 256, cp⟩).toArray) (results_cell_row Try.results17 _ _ q 53 _ (0, 0) _ rfl (setRow_heap _ _ _ _ _ _ HGQ.out) Try.underlying53 rfl (rp_info _)) rfl ⟨g, cp, rfl, HI3.out.keptS (S := fun k => k = q) ⟨rfl, rfl, rfl, by simp, fun k _ hk => setRow_other _ _ _ _ (fun e => hk e)⟩ (fun g' cs' hb' e => ?_), kept_row (HK1.out.trans HM2.out.kept) (by have := HQ.out; omega)⟩
  rw [e, HGQ.out] at hb'
  injection hb' with hb'
  injection hb' with _ hb' _
  exact absurd hb' (by decide)

theorem inside_full {l : List Nat} {i E : Nat} (h1 : i + (byteL (l.drop i)).2 ≤ E) (h2 : E ≤ l.length) : byteL ((l.take E).drop i) = byteL (l.drop i) := by
  have hp := byteL_pos (l.drop i)
  have h3 := byteL_2 (l.drop i)
  rw [getD_drop, Nat.add_zero] at h3
  unfold byteL
  rw [getD_inside (show i + 0 < E by omega), getD_drop l i 0, Nat.add_zero, inside_len h2, List.length_drop]
  by_cases hc : l.getD i 0 = 92
  · rw [if_pos hc] at h3
    rw [if_pos hc, if_pos hc, if_neg (by omega), if_neg (by omega), getD_inside (show i + 1 < E by omega), getD_drop]
  · rw [if_neg hc, if_neg hc]
end Go.Proofs.Ytjbjfdmdicfjfaa
