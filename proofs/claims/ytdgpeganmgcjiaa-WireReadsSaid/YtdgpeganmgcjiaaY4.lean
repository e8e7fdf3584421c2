/- package limnographref30: GetVar. -/
import Derived.Test.YtdgpeganmgcjiaaY3
import Derived.Deep.WholeRow
namespace Go.Proofs.Ytdgpeganmgcjiaa
open Go.RowKit
attribute [local go_sem ↓] Go.wp_at_zero Go.wp_at_succ

theorem three_set {w : World} {g : Nat} {a b c x y z : Value} {T : TypeId} (h : w.heap[g]? = some (.cells #[a, b, c] T (0, 0))) : (((w.setCell ⟨g, 0, none⟩ x).setCell ⟨g, 1, none⟩ y).setCell ⟨g, 2, none⟩ z).heap[g]? = some (.cells #[x, y, z] T (0, 0)) := by
  have h1 := heap_setCell_same _ _ 0 _ _ x h
  have h2 := heap_setCell_same _ _ 1 _ _ y h1
  have h3 := heap_setCell_same _ _ 2 _ _ z h2
  simpa using h3
theorem three_kept {W w : World} {g : Nat} {x y z : Value} (h : Kept (fun _ => False) W w) (hg : W.heap.size ≤ g) : Kept (fun _ => False) W (((w.setCell ⟨g, 0, none⟩ x).setCell ⟨g, 1, none⟩ y).setCell ⟨g, 2, none⟩ z) :=
  ((h.setCell (p := ⟨g, 0, none⟩) (fun hlt => by simp only at hlt; omega) x).setCell (p := ⟨g, 1, none⟩) (fun hlt => by simp only at hlt; omega) y).setCell (p := ⟨g, 2, none⟩) (fun hlt => by simp only at hlt; omega) z
theorem got30_info : (Try.prog.info? 56).map (·.size) = some 3 := by kernel_rfl

theorem numW_drop (P : List Nat) (i : Nat) (h : i < P.length) : numW (P.drop i) = P.getD i 0 % 128 + 128 * numW (P.drop (i + 1)) := by
  rw [List.drop_eq_getElem_cons h, List.getD_eq_getElem?_getD, List.getElem?_eq_getElem h]; rfl
theorem numW_le (P : List Nat) (i : Nat) : numW (P.drop i) ≤ numW P := by
  induction i with
  | zero => simp
  | succ i ih =>
    by_cases h : i < P.length
    · rw [numW_drop P i h] at ih; omega
    · rw [List.drop_eq_nil_of_le (by omega)]; exact Nat.zero_le _

set_option maxHeartbeats 4000000 in
set_option maxRecDepth 100000 in
theorem rgetVar_any (ao : Option Addr) (c : Nat) (l : List Nat) (w : World) (hb : By w ao c l) (hl : l.length ≤ 100000000000) (t : Nat) (ht : t ≤ l.length) (V N E : Nat) (hg : gotW (l.drop t) = (V, N, E)) :
    Calls Try.prog 24 #[.slice ao l.length c, .int .i64 (t : Int)] w fun e w' => e = .returned (.agg #[.int .u64 (V : Int), .int .i64 (N : Int), .int .i64 (E : Int)]) ∧ Kept (fun _ => False) w w' := by
  have hlt : ∀ x ∈ l.drop t, x < 256 := fun x hx => hb.lt x (List.mem_of_mem_drop hx)
  have hVlt := fun (e : E = 0) => varW_got (l.drop t) hlt V N (by rw [hg, e])
  obtain ⟨n, a1, a2, a3, hr⟩ := gotF_ref (l.drop t) hlt 0 0 (by omega)
  unfold gotW at hg
  rw [hg] at hr
  have hel : ∀ k, k < (l.drop t).length → ∃ g off, ao = some ⟨g, off, none⟩ ∧ ∀ wr, Kept (fun _ => False) w wr → wr.cell? ⟨g, off + (t + k), none⟩ = some (.int .u8 (((l.drop t).getD k 0 : Nat) : Int)) := by
    intro k hk
    rw [List.length_drop] at hk
    have h := bys_get (l := l) (j := t + k) (by omega)
    obtain ⟨g, off, e, hc⟩ := hb.at_.elem h
    refine ⟨g, off, e, fun wr hk => ?_⟩
    rw [getD_drop]
    exact hk.cell hc (fun x => x)
  have h256 : ∀ k, k < (l.drop t).length → (l.drop t).getD k 0 < 256 := by
    intro k hk
    rw [List.getD_eq_getElem?_getD, List.getElem?_eq_getElem hk]; exact hlt _ (List.getElem_mem hk)
  obtain ⟨m, hm⟩ : ∃ m, m = l.drop t := ⟨_, rfl⟩
  obtain ⟨L, hL⟩ : ∃ L, L = l.length := ⟨_, rfl⟩
  have hml : t + m.length = L := by rw [hm, List.length_drop, hL]; omega
  rw [← hm] at hlt hr hel h256 a2 a3
  rw [← hL] at hl ht ⊢
  have HEL := Lib.hid hel
  have H256 := Lib.hid h256
  have HVL := Lib.hid hVlt
  have HA3 := Lib.hid a3
  have HR := Lib.hid hr
  have HML := Lib.hid hml
  have HRS : Hid (∀ w', Kept (fun _ => False) (w.alloc (.cells #[.int .u64 0, .int .i64 0, .int .i64 0] 56)) w' → w'.heap[w.heap.size]? = some (.cells #[.int .u64 0, .int .i64 0, .int .i64 0] 56 (0, 0))) := Lib.hid fun w' hk => hk.same (heap_alloc_new w _) (fun x => x)
  have HKA := Lib.hid ((Kept.refl (fun _ => False) w).alloc (.cells #[.int .u64 0, .int .i64 0, .int .i64 0] 56))
  obtain ⟨w0, hw0⟩ : ∃ w0, w0 = w.alloc (.cells #[.int .u64 0, .int .i64 0, .int .i64 0] 56) := ⟨_, rfl⟩
  rw [← hw0] at HRS HKA
  have HW0 := Lib.hid hw0
  have t0 : (0 : Int) ≤ (t : Int) := by omega
  have t1 : (t : Int) ≤ (L : Int) := by omega
  have HLL := Lib.hid hl
  clear hb hg hVlt hel h256 hm hL hr a3 hml hw0 ht hl hlt
  go_enter Try.func24, Try.ntmps24
  go_upto_region 1 with fail
  rw [← HW0.out]
  go_wp2
  go_loopg [5] n (fun g s5 wr => ∃ k : Nat, k ≤ n ∧ g = n - k ∧ s5 = .int .i64 (k : Int) ∧ w0 = wr)
  case atStart => exact ⟨0, Nat.zero_le _, rfl, rfl, rfl⟩
  case round =>
    obtain ⟨k, hk, rfl, rfl, rfl⟩ := hrel
    have hbox := HRS.out w0 (Kept.refl _ _)
    have b0 : w0.cell? ⟨w.heap.size, 0, none⟩ = some (.int .u64 0) := by rw [cell_of_row _ _ 0 _ _ _ hbox]; rfl
    have b1 : w0.cell? ⟨w.heap.size, 1, none⟩ = some (.int .i64 0) := by rw [cell_of_row _ _ 1 _ _ _ hbox]; rfl
    have b2 : w0.cell? ⟨w.heap.size, 2, none⟩ = some (.int .i64 0) := by rw [cell_of_row _ _ 2 _ _ _ hbox]; rfl
    have f0 : w0.frozen? ⟨w.heap.size, 0, none⟩ = false := by simp [World.frozen?, hbox]
    have f1 : w0.frozen? ⟨w.heap.size, 1, none⟩ = false := by simp [World.frozen?, hbox]
    have f2 : w0.frozen? ⟨w.heap.size, 2, none⟩ = false := by simp [World.frozen?, hbox]
    clear hbox
    obtain ⟨S, hS⟩ : ∃ S, S = t + k := ⟨_, rfl⟩
    have hs1 : (t : Int) + (k : Int) = (S : Int) := by omega
    have hs2 : IntKind.i64.wrap (S : Int) = (S : Int) := IntWalk.i64_in _ ⟨by have := HML.out; have := HLL.out; omega, by have := HML.out; have := HLL.out; omega⟩
    have s0 : (0 : Int) ≤ (S : Int) := by omega
    by_cases hkn : k < n
    · obtain ⟨g, off, rfl, hcell⟩ := HEL.out k (by omega)
      have hc := hcell w0 HKA.out
      have h256 := H256.out k (by omega)
      have h128 := HA3.out k hkn
      rw [← hS] at hc
      obtain ⟨C, hC⟩ : ∃ C, C = m.getD k 0 := ⟨_, rfl⟩
      rw [← hC] at hc h256 h128
      have q1 : (S : Int) < (L : Int) := by have := HML.out; omega
      have q2 : (128 : Int) ≤ (C : Int) := by omega
      have q3 : ((k : Int) == 9) = false := by simp; omega
      have q4 : IntKind.i64.wrap ((k : Int) + 1) = (k : Int) + 1 := IntWalk.i64_in _ ⟨by omega, by omega⟩
      have HKN := Lib.hid hkn
      clear hC hcell hS hkn h128 hk a1 a2
      go_wp2
      go_roundg (n - (k + 1))
      case measure => have := HKN.out; omega
      case rel => exact ⟨k + 1, HKN.out, rfl, by go_num, rfl⟩
    · have hkn : k = n := by omega
      subst hkn
      rcases HR.out with ⟨e1, e2⟩ | ⟨e1, e2, e3, e4⟩ | ⟨e1, e2, e3, e4⟩ | ⟨e1, e2, e3, e4⟩
      · have q1 : (S : Int) = (L : Int) := by have := HML.out; omega
        have q2 : ¬ (S : Int) < (L : Int) := by omega
        have q3 : ((S : Int) == (L : Int)) = true := by rw [q1]; simp
        clear q1
        have HE := Lib.hid e2
        clear e1 e2 hS hk a1 a2
        go_wp2
        refine bodyPost_ret (v := .agg #[.int .u64 0, .int .i64 0, .int .i64 2]) ?_ rfl ?_
        · exact results_cell_row Try.results24 _ _ w.heap.size 56 _ (0, 0) _ rfl (three_set (HRS.out w0 (Kept.refl _ _))) Try.underlying56 rfl got30_info
        · have h := HE.out
          simp at h
          obtain ⟨rfl, rfl, rfl⟩ := h
          exact ⟨rfl, three_kept HKA.out (Nat.le_refl _)⟩
      · obtain ⟨g, off, rfl, hcell⟩ := HEL.out k (by omega)
        have hc := hcell w0 HKA.out
        have h256 := H256.out k (by omega)
        rw [← hS] at hc
        obtain ⟨C, hC⟩ : ∃ C, C = m.getD k 0 := ⟨_, rfl⟩
        rw [← hC] at hc h256 e3
        have q1 : (S : Int) < (L : Int) := by have := HML.out; omega
        have q2 : (128 : Int) ≤ (C : Int) := by omega
        have q3 : ((k : Int) == 9) = true := by simp; omega
        have HE := Lib.hid e4
        clear hC hcell hS hk a1 a2 e1 e2 e3 e4
        go_wp2
        refine bodyPost_ret (v := .agg #[.int .u64 0, .int .i64 0, .int .i64 3]) ?_ rfl ?_
        · exact results_cell_row Try.results24 _ _ w.heap.size 56 _ (0, 0) _ rfl (three_set (HRS.out w0 (Kept.refl _ _))) Try.underlying56 rfl got30_info
        · have h := HE.out
          simp at h
          obtain ⟨rfl, rfl, rfl⟩ := h
          exact ⟨rfl, three_kept HKA.out (Nat.le_refl _)⟩
      · obtain ⟨g, off, rfl, hcell⟩ := HEL.out k (by omega)
        have hc := hcell w0 HKA.out
        have h256 := H256.out k (by omega)
        rw [← hS] at hc
        obtain ⟨C, hC⟩ : ∃ C, C = m.getD k 0 := ⟨_, rfl⟩
        rw [← hC] at hc h256 e2 e3
        have q1 : (S : Int) < (L : Int) := by have := HML.out; omega
        have q2 : ¬ (128 : Int) ≤ (C : Int) := by omega
        have q4 : ((S : Int) == (L : Int)) = false := by have := HML.out; simp; omega
        have hcase : ((k : Int) == 9) = true ∧ (1 : Int) < (C : Int) ∨ ((k : Int) == 9) = false ∧ (0 : Int) < (k : Int) ∧ ((C : Int) == 0) = true ∨ ((k : Int) == 9) = true ∧ ¬ (1 : Int) < (C : Int) ∧ (0 : Int) < (k : Int) ∧ ((C : Int) == 0) = true := by
          by_cases h9 : k = 9
          · by_cases h1 : 1 < C
            · left; exact ⟨by simp; omega, by omega⟩
            · right; right; exact ⟨by simp; omega, by omega, by omega, by simp; omega⟩
          · right; left; exact ⟨by simp; omega, by omega, by simp; omega⟩
        have HE := Lib.hid e4
        clear hC hcell hS hk a1 a2 e1 e2 e3 e4
        rcases hcase with ⟨c1, c2⟩ | ⟨c1, c2, c3⟩ | ⟨c1, c2, c3, c4⟩ <;>
        · go_wp2
          refine bodyPost_ret (v := .agg #[.int .u64 0, .int .i64 0, .int .i64 3]) ?_ rfl ?_
          · exact results_cell_row Try.results24 _ _ w.heap.size 56 _ (0, 0) _ rfl (three_set (HRS.out w0 (Kept.refl _ _))) Try.underlying56 rfl got30_info
          · have h := HE.out
            simp at h
            obtain ⟨rfl, rfl, rfl⟩ := h
            exact ⟨rfl, three_kept HKA.out (Nat.le_refl _)⟩
      · obtain ⟨g, off, rfl, hcell⟩ := HEL.out k (by omega)
        have hc := hcell w0 HKA.out
        have h256 := H256.out k (by omega)
        rw [← hS] at hc
        obtain ⟨C, hC⟩ : ∃ C, C = m.getD k 0 := ⟨_, rfl⟩
        rw [← hC] at hc h256 e2 e3
        have q1 : (S : Int) < (L : Int) := by have := HML.out; omega
        have q2 : ¬ (128 : Int) ≤ (C : Int) := by omega
        have q4 : ((S : Int) == (L : Int)) = false := by have := HML.out; simp; omega
        have hcase : ((k : Int) == 9) = true ∧ ¬ (1 : Int) < (C : Int) ∧ (0 : Int) < (k : Int) ∧ ((C : Int) == 0) = false ∨ ((k : Int) == 9) = false ∧ ((0 : Int) < (k : Int) ∧ ((C : Int) == 0) = false ∨ ¬ (0 : Int) < (k : Int)) := by
          by_cases h9 : k = 9
          · left; exact ⟨by simp; omega, by omega, by omega, by simp; omega⟩
          · right; refine ⟨by simp; omega, ?_⟩
            by_cases h0 : k = 0
            · right; omega
            · left; exact ⟨by omega, by simp; omega⟩
        have HE := Lib.hid e4
        have HPL := Lib.hid (show (m.take (k + 1)).length = k + 1 by rw [List.length_take]; omega)
        have HPG := Lib.hid (show ∀ j, j < k + 1 → (m.take (k + 1)).getD j 0 = m.getD j 0 from fun j hj => by
          simp only [List.getD_eq_getElem?_getD, List.getElem?_take]; rw [if_pos hj])
        obtain ⟨P, hP⟩ : ∃ P, P = m.take (k + 1) := ⟨_, rfl⟩
        rw [← hP] at HE HPL HPG
        have HV := Lib.hid (show V = numW P ∧ N = k + 1 ∧ E = 0 by have h := HE.out; simp at h; omega)
        have HVL2 := Lib.hid ((HVL.out HV.out.2.2).1)
        have HK1 := Lib.hid (And.intro e1 hk)
        have hk9 : IntKind.i64.wrap ((k : Int) + 1) = ((k + 1 : Nat) : Int) := by rw [IntWalk.i64_in _ ⟨by omega, by omega⟩]; omega
        have HLLL := Lib.hid (show S < L ∧ L ≤ 100000000000 by have := HLL.out; omega)
        clear hC hcell hS hP HE e1 e2 e3 hk a1 a2 e4
        rcases hcase with ⟨c1, c2, c3, c4⟩ | ⟨c1, ⟨c2, c3⟩ | c2⟩ <;>
        · go_wp2
          go_loopg [6, 7] (k + 1) (fun x s6 s7 wr => ∃ (j : Nat) (u : Int), j ≤ k + 1 ∧ x = 0 + j ∧ u + 1 = (j : Int) ∧ s7 = .int .i64 u ∧ s6 = .int .u64 ((numW (P.drop j) : Nat) : Int) ∧ w0 = wr)
          case atStart => exact ⟨k + 1, k, by omega, by omega, by omega, rfl, by rw [List.drop_eq_nil_of_le (by rw [HPL.out]; omega)]; rfl, rfl⟩
          case round =>
            obtain ⟨j, u, hj, rfl, hu, rfl, rfl, rfl⟩ := hrel
            by_cases hj0 : j = 0
            · subst hj0
              have hu1 : u = -1 := by omega
              subst hu1
              have h := HV.out
              obtain ⟨rfl, rfl, rfl⟩ := h
              clear hj hu
              go_wp2
              refine bodyPost_ret (v := .agg #[.int .u64 ((numW P : Nat) : Int), .int .i64 ((k + 1 : Nat) : Int), .int .i64 0]) ?_ rfl ?_
              · exact results_cell_row Try.results24 _ _ w.heap.size 56 _ (0, 0) _ rfl (three_set (HRS.out w0 (Kept.refl _ _))) Try.underlying56 rfl got30_info
              · exact ⟨rfl, three_kept HKA.out (Nat.le_refl _)⟩
            · obtain ⟨i, rfl⟩ : ∃ i, j = i + 1 := ⟨j - 1, by omega⟩
              have hu1 : u = (i : Int) := by omega
              subst hu1
              have hPd := numW_drop P i (by rw [HPL.out]; omega)
              have hPle := numW_le P i
              have hVV := HVL2.out
              rw [HV.out.1] at hVV
              rw [HPG.out i (by omega)] at hPd
              obtain ⟨g2, off2, e, hcell2⟩ := HEL.out i (by have := HK1.out; omega)
              cases e
              have hc2 := hcell2 w0 HKA.out
              have h2562 := H256.out i (by have := HK1.out; omega)
              obtain ⟨D, hD⟩ : ∃ D, D = m.getD i 0 := ⟨_, rfl⟩
              rw [← hD] at hc2 h2562 hPd
              obtain ⟨S2, hS2⟩ : ∃ S, S = t + i := ⟨_, rfl⟩
              rw [← hS2] at hc2
              have hs3 : (t : Int) + (i : Int) = (S2 : Int) := by omega
              have hs4 : (0 : Int) ≤ (S2 : Int) := by omega
              have hs8 : (S2 : Int) ≤ 100000000000 := by have := HLLL.out; have := HML.out; have := HK1.out; omega
              have hs9 : (i : Int) ≤ 100000000000 := by have := HLLL.out; have := HML.out; have := HK1.out; omega
              have hs10 : (t : Int) ≤ 100000000000 := by have := HLLL.out; have := HML.out; have := HK1.out; omega
              have hs5 : (S2 : Int) < (L : Int) := by have := HML.out; have := HK1.out; omega
              obtain ⟨D7, hD7⟩ : ∃ D7, D7 = D % 128 := ⟨_, rfl⟩
              rw [← hD7] at hPd
              have hs6 : (D : Int) % 128 = (D7 : Int) := by omega
              obtain ⟨X, hX⟩ : ∃ X, X = numW (P.drop (i + 1)) := ⟨_, rfl⟩
              rw [← hX] at hPd ⊢
              have hs7 : 128 * (X : Int) + (D7 : Int) < 18446744073709551616 := by omega
              have hY := Lib.hid hPd
              have HJ := Lib.hid hj
              clear hPle hVV hD hD7 hX hPd hj hu hj0 hcell2
              clear hk9 hs2 hS2
              go_wp2
              go_roundg i
              case measure => omega
              case rel => exact ⟨i, (i : Int) - 1, by have := HJ.out; omega, by omega, by omega, by go_num, by rw [hY.out]; go_num, rfl⟩
end Go.Proofs.Ytdgpeganmgcjiaa
