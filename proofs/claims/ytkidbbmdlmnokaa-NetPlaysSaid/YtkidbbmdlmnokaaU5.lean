/- Layer 23: slices.Delete of one message; Take (written by tools/gen_XU5.py). -/
import Derived.Test.YtkidbbmdlmnokaaU4
import Derived.Deep.RegionLaw
namespace Go.Proofs.Ytkidbbmdlmnokaa
open Go.RowKit
attribute [local go_sem ↓] Go.wp_at_zero Go.wp_at_succ

theorem run_cutHm {P : Program} {t E : TypeId} {i : TypeInfo} (ht : P.underlying t = some (.slice E)) (hi : P.info? E = some i) (a : Option Addr) (len cap h : Nat) (hhi : h ≤ cap) (w : World) :
    (Instr.slice t (.slice a len cap) none (some (.int .i64 (h : Int))) none).run P w = .ok (.slice a h cap) w := by
  have he : P.elem t = E := by simp [Program.elem, ht]
  rw [run_slice_h w t a len cap (by rw [he]; exact ht) .i64 h (by omega) (by omega), he]
  have e : (a.map fun x => x.add 0) = a := by cases a <;> simp [add_zero']
  simp [sizeOf, typeInfo, hi, sliced, e]
theorem run_cutHmAt {P : Program} {t E : TypeId} {i : TypeInfo} (ht : P.underlying t = some (.slice E)) (hi : P.info? E = some i) (a : Option Addr) (len cap h : Nat) (hhi : h ≤ cap) (w : World) :
    (Instr.sliceAt t (.slice a len cap) none (some (.int .i64 (h : Int))) none).run P w = .ok (.slice a h cap) w := by
  have he : P.elem t = E := by simp [Program.elem, ht]
  rw [run_sliceAt_slice w t _ _ _ _ (by rw [he]; exact ht)]
  exact run_cutHm ht hi a len cap h hhi w
theorem run_cutLm {P : Program} {t E : TypeId} {i : TypeInfo} {s : Nat} (ht : P.underlying t = some (.slice E)) (hi : P.info? E = some i) (hs : i.size = s) (a : Option Addr) (len cap lo : Nat) (hlo : lo ≤ len) (w : World) :
    (Instr.slice t (.slice a len cap) (some (.int .i64 (lo : Int))) none none).run P w = .ok (.slice (if cap = lo then a else a.map (·.add (lo * s))) (len - lo) (cap - lo)) w := by
  have he : P.elem t = E := by simp [Program.elem, ht]
  rw [run_slice_l w t a len cap (by rw [he]; exact ht) .i64 lo (by omega) (by omega), he]
  simp [sizeOf, typeInfo, hi, hs, sliced]
theorem run_cutLmAt {P : Program} {t E : TypeId} {i : TypeInfo} {s : Nat} (ht : P.underlying t = some (.slice E)) (hi : P.info? E = some i) (hs : i.size = s) (a : Option Addr) (len cap lo : Nat) (hlo : lo ≤ len) (w : World) :
    (Instr.sliceAt t (.slice a len cap) (some (.int .i64 (lo : Int))) none none).run P w = .ok (.slice (if cap = lo then a else a.map (·.add (lo * s))) (len - lo) (cap - lo)) w := by
  have he : P.elem t = E := by simp [Program.elem, ht]
  rw [run_sliceAt_slice w t _ _ _ _ (by rw [he]; exact ht)]
  exact run_cutLm ht hi hs a len cap lo hlo w
theorem run_cutLHm {P : Program} {t E : TypeId} {i : TypeInfo} {s : Nat} (ht : P.underlying t = some (.slice E)) (hi : P.info? E = some i) (hs : i.size = s) (a : Option Addr) (len cap lo hh : Nat) (hlo : lo ≤ hh) (hhi : hh ≤ cap) (w : World) :
    (Instr.slice t (.slice a len cap) (some (.int .i64 (lo : Int))) (some (.int .i64 (hh : Int))) none).run P w = .ok (.slice (if cap = lo then a else a.map (·.add (lo * s))) (hh - lo) (cap - lo)) w := by
  have he : P.elem t = E := by simp [Program.elem, ht]
  rw [run_slice_lh w t a len cap (by rw [he]; exact ht) .i64 .i64 lo hh (by omega) (by omega) (by omega), he]
  simp [sizeOf, typeInfo, hi, hs, sliced]
theorem run_cutLHmAt {P : Program} {t E : TypeId} {i : TypeInfo} {s : Nat} (ht : P.underlying t = some (.slice E)) (hi : P.info? E = some i) (hs : i.size = s) (a : Option Addr) (len cap lo hh : Nat) (hlo : lo ≤ hh) (hhi : hh ≤ cap) (w : World) :
    (Instr.sliceAt t (.slice a len cap) (some (.int .i64 (lo : Int))) (some (.int .i64 (hh : Int))) none).run P w = .ok (.slice (if cap = lo then a else a.map (·.add (lo * s))) (hh - lo) (cap - lo)) w := by
  have he : P.elem t = E := by simp [Program.elem, ht]
  rw [run_sliceAt_slice w t _ _ _ _ (by rw [he]; exact ht)]
  exact run_cutLHm ht hi hs a len cap lo hh hlo hhi w
theorem run_clear_one {P : Program} (w : World) (t e ty : TypeId) (z : Value) (zc : List Value) (ht : P.underlying t = some (.slice e)) (hv : ∀ w, (zeroValue e).run P w = .ok z w) (hz : (Builtin.zeroCells z.cells 1).toList = zc) (h1 : ∀ u ∈ zc, u.oneCell' = true) (b o c : Nat)
    (hc : ∀ j, j < zc.length → (w.cell? ⟨b, o + j, none⟩).isSome = true) (hf : ∀ j, j < zc.length → w.frozen? ⟨b, o + j, none⟩ = false) :
    (Builtin.clear_ #[t] ty #[.slice (some ⟨b, o, none⟩) 1 c]).run P w = .ok (.tuple #[]) (w.setCells b o zc) := by
  have hst := run_storeCells_cells (P := P) b o zc 0 w (by simpa using hc) (by simpa using hf) h1
  simp only [Nat.add_zero] at hst
  simp [Builtin.clear_, run_underlying ht, hv, hz, hst]

/-- A row over which cells are laid. -/
def layV : List Value → Nat → List Value → List Value
  | xs, _, [] => xs
  | xs, o, v :: vs => layV (xs.set o v) (o + 1) vs
theorem layV_is : ∀ (vs xs : List Value) (o : Nat), o + vs.length ≤ xs.length → layV xs o vs = xs.take o ++ vs ++ xs.drop (o + vs.length)
  | [], xs, o, _ => by simp [layV]
  | v :: vs, xs, o, h => by
    rw [List.length_cons] at h
    rw [layV, layV_is vs (xs.set o v) (o + 1) (by rw [List.length_set]; omega), List.take_set, List.drop_set_of_lt (by omega)]
    have e : (List.take (o + 1) xs).set o v = xs.take o ++ [v] := by
      rw [List.take_add_one, List.getElem?_eq_getElem (by omega), List.set_append_right _ _ (by rw [List.length_take]; omega), List.length_take, show o - min o xs.length = 0 by omega]
      rfl
    rw [e, List.length_cons, show o + 1 + vs.length = o + (vs.length + 1) by omega]
    simp
theorem owns_setM {w : World} {base s : Nat} {E : TypeId} {g n cap : Nat} {xs : List Value} (h : w.ownsRow base E s (.slice (some ⟨g, 0, none⟩) n cap) n xs) (j : Nat) (u : Value) :
    (w.setCell ⟨g, j, none⟩ u).ownsRow base E s (.slice (some ⟨g, 0, none⟩) n cap) n (xs.set j u) := by
  refine ⟨by simpa using h.1, ?_⟩
  rcases h.2 with ⟨e, _⟩ | ⟨g', cap', cur, e, hb, hg, hn, hm, hs, ht⟩
  · cases e
  · injection e with e1 e2 e3
    injection e1 with e1
    injection e1 with e1
    subst e1
    subst e3
    refine .inr ⟨g, cap, cur.setIfInBounds j u, rfl, hb, ?_, hn, hm, by simpa using hs, ?_⟩
    · simp [World.setCell, Array.getElem?_modify, hg]
    · rw [← ht]
      simp [List.take_set]
theorem owns_lay {base s : Nat} {E : TypeId} {g n cap : Nat} : ∀ (vs : List Value) (xs : List Value) (o : Nat) (w : World), w.ownsRow base E s (.slice (some ⟨g, 0, none⟩) n cap) n xs → (w.setCells g o vs).ownsRow base E s (.slice (some ⟨g, 0, none⟩) n cap) n (layV xs o vs)
  | [], _, _, _, h => h
  | v :: vs, xs, o, w, h => owns_lay vs (xs.set o v) (o + 1) (w.setCell ⟨g, o, none⟩ v) (owns_setM h o v)
theorem kept_lay {g : Nat} : ∀ (vs : List Value) (o : Nat) (w : World), Kept (fun k => k = g) w (w.setCells g o vs)
  | [], _, w => Kept.refl _ w
  | v :: vs, o, w => ((Kept.refl (fun k => k = g) w).setCell (p := ⟨g, o, none⟩) (fun _ => rfl) v).trans (kept_lay vs (o + 1) (w.setCell ⟨g, o, none⟩ v))
theorem own_shrink {w : World} {B s : Nat} {E : TypeId} {g n c k : Nat} {xs : List Value} (h : w.ownsRow B E s (.slice (some ⟨g, 0, none⟩) n c) n xs) (hk : k ≤ n) : w.ownsRow B E s (.slice (some ⟨g, 0, none⟩) k c) k (xs.take (k * s)) := by
  have hks : k * s ≤ n * s := Nat.mul_le_mul_right s hk
  refine ⟨by rw [List.length_take, h.1]; omega, ?_⟩
  rcases h.2 with ⟨e, h0⟩ | ⟨g', cap, cur, e, hb, hg, hnc, hcm, hcs, ht⟩
  · cases e
  · injection e with e1 e2 e3
    injection e1 with e1
    injection e1 with e1
    subst e1; subst e3
    refine .inr ⟨g, c, cur, rfl, hb, hg, by omega, hcm, hcs, ?_⟩
    rw [← ht, List.take_take]
    congr 1
    omega
theorem own_some {w : World} {B s : Nat} {E : TypeId} {g n c : Nat} {xs : List Value} (h : w.ownsRow B E s (.slice (some ⟨g, 0, none⟩) n c) n xs) (j : Nat) (hj : j < n * s) : (w.cell? ⟨g, j, none⟩).isSome = true ∧ w.frozen? ⟨g, j, none⟩ = false := by
  have hc := h.cells (g := g) rfl j (xs[j]'(by rw [h.1]; exact hj)) (List.getElem?_eq_getElem _)
  rw [addr_add0] at hc
  refine ⟨by rw [hc]; rfl, ?_⟩
  rcases h.2 with ⟨e, h0⟩ | ⟨g', cap, cur, e, hb, hg, _⟩
  · cases e
  · injection e with e1 e2 e3
    injection e1 with e1
    injection e1 with e1
    subst e1
    simp [World.frozen?, hg]
theorem zero_msg (w : World) : (zeroValue 29).run Try.prog w = .ok (.agg #[.bool false, .int .i64 0, .slice none 0 0]) w := by
  obtain ⟨iI, hiI, hzI0, hzI1, hzI2⟩ := info_parts Try.infoMsg
  simp [zeroValue, typeInfo, hiI, hzI0]
def zc3 : List Value := [.bool false, .int .i64 0, .slice none 0 0]
theorem zc3_is : (Builtin.zeroCells (Value.agg #[.bool false, .int .i64 0, .slice none 0 0]).cells 1).toList = zc3 := by kernel_rfl
/-- What is left of a row without its i-th message. -/
theorem flat_gone (L : List Mg) (i : Nat) (hi : i < L.length) : (layV (layV (flatG cellsM L) (i * 3) (flatG cellsM (L.drop (i + 1)))) ((L.length - 1) * 3) zc3).take ((L.length - 1) * 3) = flatG cellsM (L.eraseIdx i) := by
  have hl := flatG_length cfM L
  have hd := flatG_length cfM (L.drop (i + 1))
  rw [List.length_drop] at hd
  have e1 : layV (flatG cellsM L) (i * 3) (flatG cellsM (L.drop (i + 1))) = (flatG cellsM L).take (i * 3) ++ flatG cellsM (L.drop (i + 1)) ++ (flatG cellsM L).drop (i * 3 + (flatG cellsM (L.drop (i + 1))).length) := layV_is _ _ _ (by omega)
  have hlen : ((flatG cellsM L).take (i * 3) ++ flatG cellsM (L.drop (i + 1))).length = (L.length - 1) * 3 := by rw [List.length_append, List.length_take, hl, hd]; omega
  rw [e1, layV_is _ _ _ (by simp only [List.length_append, List.length_take, List.length_drop, hl, hd, zc3, List.length_cons, List.length_nil]; omega), List.append_assoc ((List.take _ _)) zc3, List.take_append_of_le_length (by rw [List.length_take, List.length_append, hlen]; omega), List.take_take, Nat.min_self, List.take_append_of_le_length (by rw [hlen]; exact Nat.le_refl _), List.take_of_length_le (by rw [hlen]; exact Nat.le_refl _)]
  have e2 : (flatG cellsM L).take (i * 3) = flatG cellsM (L.take i) := by
    conv => lhs; rw [← List.take_append_drop i L]
    rw [flatG_append]
    exact List.take_left' (by rw [flatG_length cfM, List.length_take]; omega)
  rw [e2, ← flatG_append, List.eraseIdx_eq_take_drop_succ]
theorem flat_at {L : List Mg} {lo : Nat} {j : Nat} {u : Value} (h : (flatG cellsM (L.drop lo))[j]? = some u) (hlo : lo ≤ L.length) : (flatG cellsM L)[lo * 3 + j]? = some u := by
  have e : flatG cellsM L = flatG cellsM (L.take lo) ++ flatG cellsM (L.drop lo) := by rw [← flatG_append, List.take_append_drop]
  have hl : (flatG cellsM (L.take lo)).length = lo * 3 := by rw [flatG_length cfM, List.length_take]; omega
  rw [e, List.getElem?_append_right (by omega), hl, show lo * 3 + j - lo * 3 = j by omega]
  exact h
set_option maxHeartbeats 4000000 in
set_option maxRecDepth 100000 in
theorem mdelete_any (W : World) (g cp : Nat) (L : List Mg) (i : Nat) (hi : i < L.length) (w : World) (hm : MineG cellsM 3 29 W w (.slice (some ⟨g, 0, none⟩) L.length cp) L) (hl : L.length ≤ 1000000) :
    Calls Try.prog 75 #[.slice (some ⟨g, 0, none⟩) L.length cp, .int .i64 (i : Int), .int .i64 ((i + 1 : Nat) : Int)] w fun e w' =>
      e = .returned (.slice (some ⟨g, 0, none⟩) (L.length - 1) cp) ∧ MineG cellsM 3 29 W w' (.slice (some ⟨g, 0, none⟩) (L.eraseIdx i).length cp) (L.eraseIdx i) ∧ Kept (fun k => k = g) w w' := by
  obtain ⟨iI, hiI, hzI0, hzI1, hzI2⟩ := info_parts Try.infoMsg
  obtain ⟨news, hnews⟩ : ∃ news, news = flatG cellsM (L.drop (i + 1)) := ⟨_, rfl⟩
  have hcap : L.length ≤ cp := by
    rcases hm.own.2 with ⟨e, h0⟩ | ⟨g', cap, cur, e, _, _, hc, _⟩
    · cases e
    · injection e with _ _ e3
      subst e3
      exact hc
  have hlen : (L.eraseIdx i).length = L.length - 1 := by rw [List.length_eraseIdx, if_pos hi]
  have hnl : news.length = (L.length - (i + 1)) * 3 := by rw [hnews, flatG_length cfM, List.length_drop]
  have kd : Kept (fun _ => False) w w.drew := (Kept.refl _ w).drew
  have hmd := hm.on kd
  obtain ⟨ax, hax⟩ : ∃ ax : Addr, (if cp = i + 1 then (some (⟨g, 0, none⟩ : Addr)) else (some (⟨g, 0, none⟩ : Addr)).map (·.add ((i + 1) * 3))) = some ax := by
    by_cases h : cp = i + 1
    · exact ⟨_, if_pos h⟩
    · exact ⟨_, if_neg h⟩
  have hsrc : ∀ j u, news[j]? = some u → w.drew.cell? (ax.add j) = some u := by
    intro j u hu
    have hj : j < news.length := (List.getElem?_eq_some_iff.1 hu).1
    rw [if_neg (by omega)] at hax
    injection hax with hax
    have hax : (⟨g, 0, none⟩ : Addr).add ((i + 1) * 3) = ax := hax
    rw [← hax, addr_add0]
    have : ((⟨g, (i + 1) * 3, none⟩ : Addr).add j) = ⟨g, (i + 1) * 3 + j, none⟩ := by unfold Addr.add; split <;> simp_all
    rw [this]
    have hc := hmd.own.cells (g := g) rfl ((i + 1) * 3 + j) u (by rw [hnews] at hu; exact flat_at hu (by omega))
    rwa [addr_add0] at hc
  have hone : ∀ u ∈ news, u.oneCell' = true := by rw [hnews]; exact flatG_all cfM _
  have hsp : ∀ j, j < news.length → (w.drew.cell? ⟨g, 0 + i * 3 + j, none⟩).isSome = true ∧ w.drew.frozen? ⟨g, 0 + i * 3 + j, none⟩ = false := fun j hj => own_some hmd.own _ (by omega)
  obtain ⟨w1, hw1⟩ : ∃ w1, w1 = w.drew.setCells g (0 + i * 3) news := ⟨_, rfl⟩
  have ho1 : w1.ownsRow W.heap.size 29 3 (.slice (some ⟨g, 0, none⟩) L.length cp) L.length (layV (flatG cellsM L) (i * 3) news) := by
    rw [hw1, Nat.zero_add]; exact owns_lay news _ _ _ hmd.own
  have hclr : ∀ ty, (Builtin.clear_ #[26] ty #[.slice (some ⟨g, (L.length - 1) * 3, none⟩) 1 (cp - (L.length - 1))]).run Try.prog w1 = .ok (.tuple #[]) (w1.setCells g ((L.length - 1) * 3) zc3) := fun ty =>
    run_clear_one w1 _ _ ty _ zc3 Try.underlying26 zero_msg zc3_is (by decide) g _ _ (fun j hj => (own_some ho1 _ (by simp [zc3] at hj; omega)).1) (fun j hj => (own_some ho1 _ (by simp [zc3] at hj; omega)).2)
  have fin : MineG cellsM 3 29 W (w1.setCells g ((L.length - 1) * 3) zc3) (.slice (some ⟨g, 0, none⟩) (L.eraseIdx i).length cp) (L.eraseIdx i) ∧ Kept (fun k => k = g) w (w1.setCells g ((L.length - 1) * 3) zc3) := by
    have k1 : Kept (fun k => k = g) w (w1.setCells g ((L.length - 1) * 3) zc3) := (kd.mono (fun _ _ x => x.elim)).trans ((by rw [hw1]; exact kept_lay _ _ _ : Kept (fun k => k = g) w.drew w1).trans (kept_lay _ _ _))
    refine ⟨⟨?_, hm.kept.newer k1 (fun j e => by subst e; exact (ownsRow_lt hm.own rfl).2)⟩, k1⟩
    have h2 := own_shrink (owns_lay zc3 _ ((L.length - 1) * 3) _ ho1) (k := L.length - 1) (by omega)
    rw [hnews, flat_gone L i hi] at h2
    rw [hlen]; exact h2
  have hcutH := run_cutHm (P := Try.prog) Try.underlying26 hiI (some ⟨g, 0, none⟩) L.length cp i (by omega)
  have hcutL := run_cutLm (P := Try.prog) Try.underlying26 hiI hzI1 (some ⟨g, 0, none⟩) L.length cp (i + 1) (by omega)
  rw [hax] at hcutL
  have hcutE := run_cutLHm (P := Try.prog) Try.underlying26 hiI hzI1 (some ⟨g, 0, none⟩) (L.length - 1) cp (L.length - 1) L.length (by omega) (by omega)
  have hadd : (⟨g, 0, none⟩ : Addr).add ((L.length - 1) * 3) = ⟨g, (L.length - 1) * 3, none⟩ := addr_add0 _ _
  rw [if_neg (by omega), Option.map_some, hadd, show L.length - (L.length - 1) = 1 by omega] at hcutE
  have hcutHA := run_cutHmAt (P := Try.prog) Try.underlying26 hiI (some ⟨g, 0, none⟩) L.length cp i (by omega)
  have hcutLA := run_cutLmAt (P := Try.prog) Try.underlying26 hiI hzI1 (some ⟨g, 0, none⟩) L.length cp (i + 1) (by omega)
  rw [hax] at hcutLA
  have hcutEA := run_cutLHmAt (P := Try.prog) Try.underlying26 hiI hzI1 (some ⟨g, 0, none⟩) (L.length - 1) cp (L.length - 1) L.length (by omega) (by omega)
  rw [if_neg (by omega), Option.map_some, hadd, show L.length - (L.length - 1) = 1 by omega] at hcutEA
  obtain ⟨n, hn⟩ : ∃ n, n = L.length := ⟨_, rfl⟩
  obtain ⟨m, hmm⟩ : ∃ m, m = n - (i + 1) := ⟨_, rfl⟩
  obtain ⟨d, hd⟩ : ∃ d, d = n - 1 := ⟨_, rfl⟩
  rw [← hn, ← hd] at hclr fin hcutE hcutEA
  rw [← hn, ← hmm] at hnl hcutL hcutLA
  rw [← hn] at hcutH hcutHA ⊢
  have hclr2 := hclr
  have HNL := Lib.hid hnl
  have HSRC := Lib.hid hsrc
  have HONE := Lib.hid hone
  have HSP := Lib.hid hsp
  have HFIN := Lib.hid fin
  have HNM : Hid (i + m = d) := Lib.hid (by omega)
  have HW1 := Lib.hid hw1.symm
  have HLL := Lib.hid (show i + m ≤ cp ∧ n ≤ 1000000 by omega)
  have HND := Lib.hid (show n - 1 = d by omega)
  have hdn : (d : Int) ≤ (n : Int) := by omega
  have hne : ¬ n = i := by omega
  have hnc : (n : Int) ≤ (cp : Int) := by omega
  have hin : ((i + 1 : Nat) : Int) ≤ (n : Int) := by omega
  have hii : (i : Int) ≤ ((i + 1 : Nat) : Int) := by omega
  have hie : ((i : Int) == ((i + 1 : Nat) : Int)) = false := beqF (by omega)
  obtain ⟨k, hk⟩ : ∃ k, k = i + 1 := ⟨_, rfl⟩
  rw [← hk] at hcutL hcutLA hin hii hie ⊢
  clear hi hm hl hnews hcap hlen hnl kd hmd hax hsrc hone hsp hw1 ho1 hclr fin hadd hn hmm hd hk
  go_enter Try.func75, Try.ntmps75
  go_upto_region 5 with fail
  refine AnyBut.start (S := fun _ => True) (k := 7) (by kernel_rfl) ?_
  refine AnyBut.take (i := 0) (v := ?v1) rfl (by kernel_rfl) (by kernel_rfl) (by kernel_rfl) (by kernel_rfl) (fun _ _ _ h => h) (trivial) (Or.inl ⟨by kernel_rfl, ?hy1⟩) ?r1
  case hy1 =>
    intro w hSw
    try dsimp only at hSw
    go_simp
    try with_reducible rfl
  try simp only [Act.put, List.getElem_toArray, List.getElem_cons_zero, List.setIfInBounds_toArray, List.set_cons_zero, List.set_cons_succ]
  refine AnyBut.take (i := 1) (v := ?v2) rfl (by kernel_rfl) (by kernel_rfl) (by kernel_rfl) (by kernel_rfl) (fun _ _ _ h => h) (trivial) (Or.inl ⟨by kernel_rfl, ?hy2⟩) ?r2
  case hy2 =>
    intro w hSw
    try dsimp only at hSw
    go_simp
    try with_reducible rfl
  try simp only [Act.put, List.getElem_toArray, List.getElem_cons_succ, List.getElem_cons_zero, List.setIfInBounds_toArray, List.set_cons_zero, List.set_cons_succ]
  refine AnyBut.take (i := 2) (v := ?v3) rfl (by kernel_rfl) (by kernel_rfl) (by kernel_rfl) (by kernel_rfl) (fun _ _ _ h => h) (trivial) (Or.inl ⟨by kernel_rfl, ?hy3⟩) ?r3
  case hy3 =>
    intro w hSw
    try dsimp only at hSw
    go_simp
    try with_reducible rfl
  try simp only [Act.put, List.getElem_toArray, List.getElem_cons_succ, List.getElem_cons_zero, List.setIfInBounds_toArray, List.set_cons_zero, List.set_cons_succ]
  refine AnyBut.take (i := 3) (v := ?v4) rfl (by kernel_rfl) (by kernel_rfl) (by kernel_rfl) (by kernel_rfl) (fun _ _ _ h => h) (trivial) (Or.inl ⟨by kernel_rfl, ?hy4⟩) ?r4
  case hy4 =>
    intro w hSw
    try dsimp only at hSw
    go_simp
    try with_reducible rfl
  try simp only [Act.put, List.getElem_toArray, List.getElem_cons_succ, List.getElem_cons_zero, List.setIfInBounds_toArray, List.set_cons_zero, List.set_cons_succ]
  refine AnyBut.take (i := 4) (v := ?v5) rfl (by kernel_rfl) (by kernel_rfl) (by kernel_rfl) (by kernel_rfl) (fun _ _ _ h => h) (trivial) (Or.inl ⟨by kernel_rfl, ?hy5⟩) ?r5
  case hy5 =>
    intro w hSw
    try dsimp only at hSw
    go_simp
    try with_reducible rfl
  try simp only [Act.put, List.getElem_toArray, List.getElem_cons_succ, List.getElem_cons_zero, List.setIfInBounds_toArray, List.set_cons_zero, List.set_cons_succ]
  refine AnyBut.take (i := 5) (v := ?v6) rfl (by kernel_rfl) (by kernel_rfl) (by kernel_rfl) (by kernel_rfl) (fun _ _ _ h => h) (trivial) (Or.inl ⟨by kernel_rfl, ?hy6⟩) ?r6
  case hy6 =>
    intro w hSw
    try dsimp only at hSw
    go_simp
    try with_reducible rfl
  try simp only [Act.put, List.getElem_toArray, List.getElem_cons_succ, List.getElem_cons_zero, List.setIfInBounds_toArray, List.set_cons_zero, List.set_cons_succ]
  refine AnyBut.one (i := 6) (by kernel_rfl) rfl (fun K hK => ?_)
  refine step_append_room (by rfl) (.tmp 22) (.tmp 25) 26 (by rfl) 29 iI 3 Try.underlying26 hiI hzI1 g 0 i cp (by rfl) ax m (cp - k) news (by rfl) HNL.out HSRC.out HONE.out (by have := HLL.out; omega) HSP.out ?_
  rw [HNM.out, HW1.out]
  refine hK.out _ _ (trivial) ?_
  clear hK K
  try simp only [Act.put, List.getElem_toArray, List.getElem_cons_succ, List.getElem_cons_zero, List.setIfInBounds_toArray, List.set_cons_zero, List.set_cons_succ]
  refine AnyBut.last (by kernel_rfl) rfl (by kernel_rfl) (fun K hK => ?_)
  go_wp2
  refine hK.out _ _ ?_
  clear hK K
  try simp only [Act.put, List.getElem_toArray, List.getElem_cons_succ, List.getElem_cons_zero, List.setIfInBounds_toArray, List.set_cons_zero, List.set_cons_succ]
  go_wp2
  go_ret
  exact ⟨by rw [HND.out]; rfl, HFIN.out⟩
end Go.Proofs.Ytkidbbmdlmnokaa
