/- Layer 14: Del, Put. -/
import Derived.Test.YtoppcohgjmghdaaMB
import Derived.Deep.RegionLaw
namespace Go.Proofs.Ytoppcohgjmghdaa
open Go.RowKit
attribute [local go_sem ↓] Go.wp_at_zero Go.wp_at_succ

/-- Which blocks a table's calls may write. -/
def tfoot (tb mb k : Nat) : Prop := k = tb ∨ k = mb
set_option maxRecDepth 100000 in
set_option maxHeartbeats 2000000 in
theorem tDel_any (base tb mb : Nat) (L M : List (ByteArray × Th)) (most : Int) (p : Nat) (s : ByteArray) (hs : s.size ≤ maxLen) (w : World) (h : TK base w tb mb L most M p) :
    Calls Try.prog 12 #[.pointer (some ⟨tb, 0, none⟩), .string s] w fun e w' => e = .returned (.bool (getM M s).isSome) ∧ TK base w' tb mb (delM L s) most (delM M s) p ∧ Kept (tfoot tb mb) w w' := by
  obtain ⟨x, hx⟩ : ∃ x, x = atT M s := ⟨_, rfl⟩
  obtain ⟨b, hb⟩ : ∃ b, b = (getM M s).isSome := ⟨_, rfl⟩
  have hl := h.look hs
  rw [← hx, ← hb] at hl
  obtain ⟨w1, hw1⟩ : ∃ w1, w1 = w.alloc (.cells #[.int .i64 x.1, .int .i64 (x.2 : Int)] 50) := ⟨_, rfl⟩
  have k1 : Kept (fun _ => False) w w1 := by rw [hw1]; exact (Kept.refl _ _).alloc _
  have h1 := h.kept k1 (fun x => x) (fun x => x)
  obtain ⟨w2, hd, hm2, hk2⟩ := h1.map.delete Try.underlying9 Try.underlying46 hs 0
  rw [delM_map] at hm2
  have HT := Lib.hid (show TK base w2 tb mb (delM L s) most (delM M s) p from
    ⟨h1.box.kept hk2 h1.ne, hm2, perm_delT h1.perm s, h1.ok.del s, h1.base, h1.mostR, Nat.le_trans (List.length_filter_le _ _) h1.few.1, h1.few.2⟩)
  have HK := Lib.hid (show Kept (tfoot tb mb) w w2 from (k1.mono (fun _ _ x => x.elim)).trans (hk2.mono (fun _ _ e => .inr e)))
  have HW := Lib.hid hw1
  have c2 := h.c.2.2
  have d2 := h1.c.2.2
  rw [← hb]
  clear h h1 hx hb k1 hm2 hk2 hw1
  go_enter Try.func12, Try.ntmps12
  go_upto_region 2 with fail
  rw [← HW.out]
  go_wp2
  go_ret
  exact ⟨rfl, HT.out, HK.out⟩
/-- What Put answers: is there room? -/
def mayT (most : Int) (M : List (ByteArray × Th)) (s : ByteArray) : Bool := (getM M s).isSome || decide (max 0 (wrap64 (most - (M.length : Int))) ≠ 0)
theorem TK.stored {base : Nat} {w w3 : World} {tb mb : Nat} {L M : List (ByteArray × Th)} {most : Int} {p : Nat} (h : TK base w tb mb L most M p) (hp : p < 1000000000) {s : ByteArray} {v : Int} (hm : MapIs w3 mb (setM (mapM valT L) s (valT (v, p)))) (hk : Kept (fun k => k = mb) w w3) :
    TK base (w3.setCell ⟨tb, 1, none⟩ (.int .i64 ((p + 1 : Nat) : Int))) tb mb (setM L s (v, p)) most (putT M s v p) (p + 1) ∧ Kept (tfoot tb mb) w (w3.setCell ⟨tb, 1, none⟩ (.int .i64 ((p + 1 : Nat) : Int))) := by
  rw [setM_map] at hm
  have hb := (h.box.kept hk h.ne).set 1 (.int .i64 ((p + 1 : Nat) : Int))
  have hks := kept_set w3 tb 1 (.int .i64 ((p + 1 : Nat) : Int))
  refine ⟨⟨hb, hm.kept hks (fun e => h.ne e.symm), perm_putT h.pair h.ok h.perm s v, h.ok.put s v, h.base, h.mostR, ?_, by omega⟩, (hk.mono (fun _ _ e => .inr e)).trans (hks.mono (fun _ _ e => .inl e))⟩
  have := h.few.1
  have h2 : (delM M s).length ≤ M.length := List.length_filter_le _ _
  unfold putT
  rw [List.length_append, List.length_singleton]
  omega
set_option maxRecDepth 100000 in
set_option maxHeartbeats 4000000 in
theorem tPut_any (base tb mb : Nat) (L M : List (ByteArray × Th)) (most : Int) (p : Nat) (hp : p < 1000000000) (s : ByteArray) (hs : s.size ≤ maxLen) (v : Int) (w : World) (h : TK base w tb mb L most M p) :
    Calls Try.prog 11 #[.pointer (some ⟨tb, 0, none⟩), .string s, .int .i64 v] w fun e w' => e = .returned (.bool (mayT most M s)) ∧ Kept (tfoot tb mb) w w' ∧
      (mayT most M s = true → TK base w' tb mb (setM L s (v, p)) most (putT M s v p) (p + 1)) ∧ (mayT most M s = false → TK base w' tb mb L most M p) := by
  obtain ⟨x, hx⟩ : ∃ x, x = atT M s := ⟨_, rfl⟩
  have hl := h.look hs
  rw [← hx] at hl
  obtain ⟨w1, hw1⟩ : ∃ w1, w1 = w.alloc (.cells #[.int .i64 x.1, .int .i64 (x.2 : Int)] 50) := ⟨_, rfl⟩
  have k1 : Kept (fun _ => False) w w1 := by rw [hw1]; exact (Kept.refl _ _).alloc _
  have h1 := h.kept k1 (fun x => x) (fun x => x)
  have HW := Lib.hid hw1
  have HP := Lib.hid hp
  have c2 := h.c.2.2
  have H1 := Lib.hid (And.intro h1 k1)
  have wp : IntKind.i64.wrap ((p : Int) + 1) = ((p + 1 : Nat) : Int) := by rw [IntWalk.i64_in _ ⟨by omega, by omega⟩]; omega
  have HST := Lib.hid (fun (X : World) (k : Kept (fun _ => False) w1 X) => h1.kept (k.trans ((Kept.refl _ X).drew)) (fun x => x) (fun x => x))
  have HRM := Lib.hid (tRoom_any base tb mb L M most p w1 h1)
  have hlm : (mapM valT L).length < maxLen := by rw [h.len]; have := h.few; unfold maxLen; omega
  obtain ⟨n, hn⟩ : ∃ n : Int, n = max 0 (wrap64 (most - (M.length : Int))) := ⟨_, rfl⟩
  have HM : Hid (mayT most M s = ((getM M s).isSome || decide (n ≠ 0))) := Lib.hid (by unfold mayT; rw [hn])
  rw [← hn] at HRM
  cases hb : (getM M s).isSome with
  | true =>
    rw [hb] at hl HM
    have hX := HST.out w1 (Kept.refl _ _)
    obtain ⟨w3, hu, hm3, hk3⟩ := hX.map.update Try.underlying9 Try.underlying46 hs (valT (v, p)) hlm
    have HF := Lib.hid (hX.stored hp hm3 hk3)
    have c1 := hX.c.2.1
    have c2' := hX.c.2.2
    have c3 := (hX.box.kept hk3 hX.ne).cell (i := 1) (u := .int .i64 (p : Int)) rfl
    have f3 := (hX.box.kept hk3 hX.ne).fz 1
    unfold valT at hu
    dsimp only at hu
    clear h h1 hx hb k1 hw1 hX hm3 hk3 hlm hn hp
    go_enter Try.func11, Try.ntmps11
    go_upto_region 2 with fail
    rw [← HW.out]
    go_wp2
    go_region
    go_wp2
    go_ret
    rw [HM.out]
    exact ⟨rfl, ((H1.out.2.trans ((Kept.refl _ _).drew)).mono (fun _ _ x => x.elim)).trans HF.out.2, fun _ => HF.out.1, fun e => by cases e⟩
  | false =>
    rw [hb] at hl HM
    by_cases h0 : n = 0
    · have HM0 : Hid (mayT most M s = false) := Lib.hid (by rw [HM.out, h0]; rfl)
      subst h0
      clear h h1 hx hb k1 hw1 hlm hn hp
      go_enter Try.func11, Try.ntmps11
      go_upto_region 2 with fail
      rw [← HW.out]
      go_wp2_with fail
      refine HRM.out.mono ?_
      rintro e w2 ⟨rfl, k2⟩
      have HK2 := Lib.hid k2
      clear k2
      go_wp2
      go_ret
      rw [HM0.out]
      exact ⟨rfl, (H1.out.2.trans HK2.out).mono (fun _ _ x => x.elim), fun e => (by cases e), fun _ => H1.out.1.kept HK2.out (fun x => x) (fun x => x)⟩
    · have HM0 : Hid (mayT most M s = true) := Lib.hid (by rw [HM.out, decide_eq_true h0]; rfl)
      have q0 : (n == (0 : Int)) = false := beq_eq_false_iff_ne.2 h0
      have HSS := Lib.hid (And.intro hs hlm)
      clear h h1 hx hb k1 hw1 hlm hn hp h0
      go_enter Try.func11, Try.ntmps11
      go_upto_region 2 with fail
      rw [← HW.out]
      go_wp2_with fail
      refine HRM.out.mono ?_
      rintro e w2 ⟨rfl, k2⟩
      have hX := HST.out w2 k2
      obtain ⟨w3, hu, hm3, hk3⟩ := hX.map.update Try.underlying9 Try.underlying46 HSS.out.1 (valT (v, p)) HSS.out.2
      have HF := Lib.hid (hX.stored HP.out hm3 hk3)
      have c1 := hX.c.2.1
      have c2' := hX.c.2.2
      have c3 := (hX.box.kept hk3 hX.ne).cell (i := 1) (u := .int .i64 (p : Int)) rfl
      have f3 := (hX.box.kept hk3 hX.ne).fz 1
      have HK2 := Lib.hid k2
      unfold valT at hu
      dsimp only at hu
      clear hX hm3 hk3 k2
      go_wp2
      go_region
      go_wp2
      go_ret
      rw [HM0.out]
      exact ⟨rfl, (((H1.out.2.trans HK2.out).trans ((Kept.refl _ _).drew)).mono (fun _ _ x => x.elim)).trans HF.out.2, fun _ => HF.out.1, fun e => by cases e⟩
end Go.Proofs.Ytoppcohgjmghdaa
