/- Layer 23: Turn. -/
import Derived.Test.YtkidbbmdlmnokaaUF
namespace Go.Proofs.Ytkidbbmdlmnokaa
open Go.RowKit
attribute [local go_sem ↓] Go.wp_at_zero Go.wp_at_succ

def turnL (L : List Mg) (i k : Int) : List Mg := if hasB L i = true ∧ hasB L k = true then swapL L i.toNat k.toNat else L
def TurnTo (W w : World) (nb : Nat) (L : List Mg) (ao : Option Addr) (cp : Nat) (i k : Int) (e : Ending) (w' : World) : Prop :=
  e = .returned (.bool (hasB L i && hasB L k)) ∧ NS W w' nb (turnL L i k) ao cp ∧ Kept (fun k => (Value.slice ao L.length cp).ownBlock = some k) w w'
/-- The row of a net is laid anew in its place. -/
theorem NS.relaid {W w w' : World} {nb cp : Nat} {L M : List Mg} {ao : Option Addr} (h : NS W w nb L ao cp) (hl : M.length = L.length) (hm : MineG cellsM 3 29 W w' (.slice ao L.length cp) M) (hk : Kept (fun k => (Value.slice ao L.length cp).ownBlock = some k) w w') (hM : ∀ m ∈ M, m ∈ L) : NS W w' nb M ao cp := by
  have hS : ∀ j, (Value.slice ao L.length cp).ownBlock = some j → ∃ cs fr T, w.heap[j]? = some (.cells cs T fr) ∧ T ≠ 5 := fun j e => by
    obtain ⟨cur, hc⟩ := ownsRow_block h.row.own e
    exact ⟨_, _, _, hc, by decide⟩
  refine ⟨?_, by rw [hl]; exact hm, fun m hx => (At.beside (h.data m (hM m hx)) (h.typ m (hM m hx)) hk hS).1, fun m hx => (At.beside (h.data m (hM m hx)) (h.typ m (hM m hx)) hk hS).2, fun m hx => h.byte m (hM m hx), h.base⟩
  rw [hl]
  exact hk.same h.box (own_ne_box h.row.own h.box (by decide))
theorem mem_swap {L : List Mg} {i k : Nat} {m : Mg} (h : m ∈ swapL L i k) : m ∈ L := by
  unfold swapL at h
  split at h
  · rename_i a b ha hb
    rcases List.mem_or_eq_of_mem_set h with h1 | h1
    · rcases List.mem_or_eq_of_mem_set h1 with h2 | h2
      · exact h2
      · subst h2; exact List.mem_of_getElem? hb
    · subst h1; exact List.mem_of_getElem? ha
  · exact h
set_option maxHeartbeats 8000000 in
set_option maxRecDepth 100000 in
theorem netTurn_any (W : World) (nb : Nat) (L : List Mg) (ao : Option Addr) (cp : Nat) (i k : Int) (w : World) (h : NS W w nb L ao cp) :
    Calls Try.prog 21 #[.pointer (some ⟨nb, 0, none⟩), .int .i64 i, .int .i64 k] w (TurnTo W w nb L ao cp i k) := by
  have HH := Lib.hid (netHas_any W nb L ao cp i w h)
  have HH2 := Lib.hid (netHas_any W nb L ao cp k w h)
  have HN := Lib.hid h
  obtain ⟨B, hB⟩ : ∃ B, B = hasB L i := ⟨_, rfl⟩
  obtain ⟨C, hC⟩ : ∃ C, C = hasB L k := ⟨_, rfl⟩
  rw [← hB] at HH
  rw [← hC] at HH2
  have HB := Lib.hid hB
  have HC := Lib.hid hC
  cases B with
  | false =>
    have HX : Hid (turnL L i k = L) := Lib.hid (if_neg (fun e => by rw [← hB] at e; cases e.1))
    clear hB hC h
    go_enter Try.func21, Try.ntmps21
    go_wp2_with fail
    refine HH.out.mono ?_
    rintro e w2 ⟨rfl, rfl⟩
    go_wp2
    go_ret
    exact ⟨by rw [← HB.out]; rfl, by rw [HX.out]; exact HN.out, Kept.refl _ _⟩
  | true =>
    cases C with
    | false =>
      have HX : Hid (turnL L i k = L) := Lib.hid (if_neg (fun e => by rw [← hC] at e; cases e.2))
      clear hB hC h
      go_enter Try.func21, Try.ntmps21
      go_wp2_with fail
      refine HH.out.mono ?_
      rintro e w2 ⟨rfl, rfl⟩
      go_wp2_with fail
      refine HH2.out.mono ?_
      rintro e w2 ⟨rfl, rfl⟩
      go_wp2
      go_ret
      exact ⟨by rw [← HB.out, ← HC.out]; rfl, by rw [HX.out]; exact HN.out, Kept.refl _ _⟩
    | true =>
      have hi := of_decide_eq_true hB.symm
      have hk := of_decide_eq_true hC.symm
      obtain ⟨i, rfl⟩ : ∃ j : Nat, i = (j : Int) := ⟨i.toNat, by omega⟩
      obtain ⟨k, rfl⟩ : ∃ j : Nat, k = (j : Int) := ⟨k.toNat, by omega⟩
      have hil : i < L.length := by omega
      have hkl : k < L.length := by omega
      have HX : Hid (turnL L (i : Int) (k : Int) = swapL L i k) := Lib.hid (by unfold turnL; rw [if_pos ⟨hB.symm, hC.symm⟩, Int.toNat_natCast, Int.toNat_natCast])
      have hgi := List.getElem?_eq_getElem hil
      have hgk := List.getElem?_eq_getElem hkl
      by_cases hik : i = k
      · subst hik
        obtain ⟨a, ha⟩ : ∃ m, m = L[i] := ⟨_, rfl⟩
        rw [← ha] at hgi
        have HSW := Lib.hid (swapL_is hgi hgi)
        obtain ⟨g, hao, cA, cH, cV⟩ := h.at_ hgi
        subst hao
        have HM1 := Lib.hid ((h.row.setM i a).setM i a)
        have hfz : ∀ j, w.frozen? ⟨g, j, none⟩ = false := by
          rcases h.row.own.2 with ⟨e0, _⟩ | ⟨g', cap', cur, e0, _, hg', _⟩
          · cases e0
          · injection e0 with e0
            injection e0 with e0
            injection e0 with e0
            subst e0
            intro j
            simp [World.frozen?, hg']
        have z0 := hfz (i * 3)
        have z1 := hfz (i * 3 + 1)
        have z2 := hfz (i * 3 + 2)
        have cN := h.cell
        obtain ⟨ak, ah, aa, ac, ab⟩ := a
        dsimp only at cA cH cV HM1
        obtain ⟨na, hna⟩ : ∃ n, n = ab.length := ⟨_, rfl⟩
        rw [← hna] at cV HM1
        have hii : (i : Int) < (L.length : Int) := by omega
        have hi0 : (0 : Int) ≤ (i : Int) := by omega
        have HKK : Hid (∀ x0 x1 x2 y0 y1 y2, Kept (fun k => (Value.slice (some ⟨g, 0, none⟩) L.length cp).ownBlock = some k) w ((((((w.setCell ⟨g, i * 3, none⟩ x0).setCell ⟨g, i * 3 + 1, none⟩ x1).setCell ⟨g, i * 3 + 2, none⟩ x2).setCell ⟨g, i * 3, none⟩ y0).setCell ⟨g, i * 3 + 1, none⟩ y1).setCell ⟨g, i * 3 + 2, none⟩ y2)) := Lib.hid (fun x0 x1 x2 y0 y1 y2 => (((((((Kept.refl (fun k => (Value.slice (some ⟨g, 0, none⟩) L.length cp).ownBlock = some k) w).setCell (p := ⟨g, i * 3, none⟩) (fun _ => rfl) x0).setCell (p := ⟨g, i * 3 + 1, none⟩) (fun _ => rfl) x1).setCell (p := ⟨g, i * 3 + 2, none⟩) (fun _ => rfl) x2).setCell (p := ⟨g, i * 3, none⟩) (fun _ => rfl) y0).setCell (p := ⟨g, i * 3 + 1, none⟩) (fun _ => rfl) y1).setCell (p := ⟨g, i * 3 + 2, none⟩) (fun _ => rfl) y2))
        clear hB hC h hi hk hgi hgk ha hfz hna hil hkl
        go_enter Try.func21, Try.ntmps21
        go_wp2_with fail
        refine HH.out.mono ?_
        rintro e w2 ⟨rfl, rfl⟩
        go_wp2_with fail
        refine HH2.out.mono ?_
        rintro e w2 ⟨rfl, rfl⟩
        go_upto_region 3 with fail
        go_region
        go_wp2
        go_ret
        have kd := (Kept.refl (fun _ => False) ((((((w.setCell ⟨g, i * 3, none⟩ (.bool ak)).setCell ⟨g, i * 3 + 1, none⟩ (.int .i64 ah)).setCell ⟨g, i * 3 + 2, none⟩ (.slice aa na ac)).setCell ⟨g, i * 3, none⟩ (.bool ak)).setCell ⟨g, i * 3 + 1, none⟩ (.int .i64 ah)).setCell ⟨g, i * 3 + 2, none⟩ (.slice aa na ac))).drew
        have kf := (HKK.out (.bool ak) (.int .i64 ah) (.slice aa na ac) (.bool ak) (.int .i64 ah) (.slice aa na ac)).trans (kd.mono (fun _ _ x => x.elim))
        refine ⟨by rw [← HB.out]; rfl, ?_, kf⟩
        rw [HX.out]
        refine HN.out.relaid (swapL_len _ _ _) ?_ kf (fun m hm => mem_swap hm)
        rw [HSW.out]
        exact HM1.out.on kd
      · have HIK := Lib.hid hik
        have HSW := Lib.hid (swapL_is hgi hgk)
        obtain ⟨a, ha⟩ : ∃ m, m = L[i] := ⟨_, rfl⟩
        obtain ⟨b, hb⟩ : ∃ m, m = L[k] := ⟨_, rfl⟩
        rw [← ha] at hgi HSW
        rw [← hb] at hgk HSW
        obtain ⟨g, hao, cA, cH, cV⟩ := h.at_ hgi
        obtain ⟨g2, hao2, dA, dH, dV⟩ := h.at_ hgk
        subst hao
        injection hao2 with hao2
        injection hao2 with hg2
        subst hg2
        have HM1 := Lib.hid ((h.row.setM i b).setM k a)
        have hfz : ∀ j, w.frozen? ⟨g, j, none⟩ = false := by
          rcases h.row.own.2 with ⟨e0, _⟩ | ⟨g', cap', cur, e0, _, hg', _⟩
          · cases e0
          · injection e0 with e0
            injection e0 with e0
            injection e0 with e0
            subst e0
            intro j
            simp [World.frozen?, hg']
        have z0 := hfz (i * 3)
        have z1 := hfz (i * 3 + 1)
        have z2 := hfz (i * 3 + 2)
        have z3 := hfz (k * 3)
        have z4 := hfz (k * 3 + 1)
        have z5 := hfz (k * 3 + 2)
        have cN := h.cell
        obtain ⟨ak, ah, aa, ac, ab⟩ := a
        obtain ⟨bk, bh, ba, bc, bb⟩ := b
        dsimp only at cA cH cV dA dH dV HM1
        obtain ⟨na, hna⟩ : ∃ n, n = ab.length := ⟨_, rfl⟩
        obtain ⟨nbb, hnb⟩ : ∃ n, n = bb.length := ⟨_, rfl⟩
        rw [← hna] at cV HM1
        rw [← hnb] at dV HM1
        have hii : (i : Int) < (L.length : Int) := by omega
        have hkk : (k : Int) < (L.length : Int) := by omega
        have hi0 : (0 : Int) ≤ (i : Int) := by omega
        have hk0 : (0 : Int) ≤ (k : Int) := by omega
        have HKK : Hid (∀ x0 x1 x2 y0 y1 y2, Kept (fun k => (Value.slice (some ⟨g, 0, none⟩) L.length cp).ownBlock = some k) w ((((((w.setCell ⟨g, i * 3, none⟩ x0).setCell ⟨g, i * 3 + 1, none⟩ x1).setCell ⟨g, i * 3 + 2, none⟩ x2).setCell ⟨g, k * 3, none⟩ y0).setCell ⟨g, k * 3 + 1, none⟩ y1).setCell ⟨g, k * 3 + 2, none⟩ y2)) := Lib.hid (fun x0 x1 x2 y0 y1 y2 => (((((((Kept.refl (fun k => (Value.slice (some ⟨g, 0, none⟩) L.length cp).ownBlock = some k) w).setCell (p := ⟨g, i * 3, none⟩) (fun _ => rfl) x0).setCell (p := ⟨g, i * 3 + 1, none⟩) (fun _ => rfl) x1).setCell (p := ⟨g, i * 3 + 2, none⟩) (fun _ => rfl) x2).setCell (p := ⟨g, k * 3, none⟩) (fun _ => rfl) y0).setCell (p := ⟨g, k * 3 + 1, none⟩) (fun _ => rfl) y1).setCell (p := ⟨g, k * 3 + 2, none⟩) (fun _ => rfl) y2))
        have n0 : ¬ k = i := fun e => hik e.symm
        have n1 : ¬ k * 3 = i * 3 := by omega
        have n2 : ¬ k * 3 = i * 3 + 1 := by omega
        have n3 : ¬ k * 3 = i * 3 + 2 := by omega
        have n4 : ¬ k * 3 + 1 = i * 3 := by omega
        have n5 : ¬ k * 3 + 1 = i * 3 + 2 := by omega
        have n6 : ¬ k * 3 + 2 = i * 3 := by omega
        have n7 : ¬ k * 3 + 2 = i * 3 + 1 := by omega
        have n8 : ¬ k * 3 + 1 = i * 3 + 1 := by omega
        have n9 : ¬ k * 3 + 2 = i * 3 + 2 := by omega
        clear hB hC h hi hk hgi hgk ha hb hfz hna hnb hil hkl
        go_enter Try.func21, Try.ntmps21
        go_wp2_with fail
        refine HH.out.mono ?_
        rintro e w2 ⟨rfl, rfl⟩
        go_wp2_with fail
        refine HH2.out.mono ?_
        rintro e w2 ⟨rfl, rfl⟩
        go_upto_region 3 with fail
        go_region
        go_wp2
        go_ret
        have kd := (Kept.refl (fun _ => False) ((((((w.setCell ⟨g, i * 3, none⟩ (.bool bk)).setCell ⟨g, i * 3 + 1, none⟩ (.int .i64 bh)).setCell ⟨g, i * 3 + 2, none⟩ (.slice ba nbb bc)).setCell ⟨g, k * 3, none⟩ (.bool ak)).setCell ⟨g, k * 3 + 1, none⟩ (.int .i64 ah)).setCell ⟨g, k * 3 + 2, none⟩ (.slice aa na ac))).drew
        have kf := (HKK.out (.bool bk) (.int .i64 bh) (.slice ba nbb bc) (.bool ak) (.int .i64 ah) (.slice aa na ac)).trans (kd.mono (fun _ _ x => x.elim))
        refine ⟨by rw [← HB.out, ← HC.out]; rfl, ?_, kf⟩
        rw [HX.out]
        refine HN.out.relaid (swapL_len _ _ _) ?_ kf (fun m hm => mem_swap hm)
        rw [HSW.out]
        exact HM1.out.on kd
end Go.Proofs.Ytkidbbmdlmnokaa
