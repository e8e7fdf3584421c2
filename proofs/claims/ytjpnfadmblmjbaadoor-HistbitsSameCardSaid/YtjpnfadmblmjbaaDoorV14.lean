/- package vary: Row.Put. package limnographref06: Way, Step. -/
import Derived.Test.YtjpnfadmblmjbaaDoorV13
import Derived.StillTailTactics
namespace Go.Proofs.YtjpnfadmblmjbaaDoor
open Go.RowKit
attribute [local go_sem ↓] Go.wp_at_zero Go.wp_at_succ

theorem wpList_mineI {ops : Array Oper} {rest : List Oper} {o : Oper} {a : Act} {Q : Exit → Act → World → Prop} {w : World} (hgd : o.guard = none) (s x : Operand)
    (ho : o.op = .call { callee := .builtin .append, args := #[s, x], argTypes := #[26, 26] })
    (W : World) (v : Value) (xs : List Value) (hv : a.eval s = v) (hm : Mine W w 3 v xs)
    (y : Value) (news : List Value) (hy : a.eval x = y) (hs : Src Tryd.prog 1 26 y news.length news w)
    (hl : xs.length + news.length ≤ 1000000000000)
    (h : ∀ v' w', Mine W w' 3 v' (xs ++ news) → wpList Tryd.prog ops Q rest (a.put o.dst v') w') : wpList Tryd.prog ops Q (o :: rest) a w := by
  obtain ⟨iI, hiI, hzI0, hzI1, hzI2⟩ := info_parts Tryd.infoInt
  exact wpList_mine hgd s x _ _ ho 3 iI (.int .i64 0) 8 Tryd.underlying26 hiI hzI0 hzI1 hzI2 rfl (by omega) W v xs hv hm y news hy hs hl h
theorem src_oneI (w : World) (u : Value) (hu : u.oneCell' = true) : Src Tryd.prog 1 26 (.slice (some ⟨w.heap.size, 0, none⟩) 1 1) ([u] : List Value).length [u] (w.alloc (.cells #[u] 3)) := src_one w Tryd.underlying26 u hu
theorem Mine.srcI {W w w' : World} {v : Value} {l : List Bool} (h : Mine W w 3 v (ints l)) (hk : Kept (fun _ => False) w w') : Src Tryd.prog 1 26 v (ints l).length (ints l) w' :=
  (h.on hk).at_.src Tryd.underlying26 (ints_one _)

/-- A signed number as one that isn't. -/
def zigN (a : Int) : Nat := (zigI a).toNat
theorem zigN_eq (a : Int) (h0 : -9223372036854775808 ≤ a) (h1 : a ≤ 9223372036854775807) : zigI a = ((zigN a : Nat) : Int) ∧ zigN a < 18446744073709551616 := by
  have := zigI_range a h0 h1; unfold zigN; omega
theorem diffI_range (a b : Int) : -9223372036854775808 ≤ diffI a b ∧ diffI a b ≤ 9223372036854775807 := by unfold diffI wrap64; omega
/-- The bits of the next number. -/
def nextB (n last step v : Int) : List Bool := if n = 0 then smallB (zigN v) else if n = 1 then smallB (zigN (diffI v last)) else stepB (diffI (diffI v last) step)

/-- Both tables. -/
structure Tabs (w : World) : Prop where
  c : ClassTab w
  y : WayTab w
theorem Tabs.kept {w w' : World} (h : Tabs w) (hk : Kept (fun _ => False) w w') : Tabs w' := ⟨h.c.kept hk, h.y.kept hk⟩
theorem Tabs.bw {w w' : World} {B p : Nat} {v : Value} {bs bs2 : List Bool} (h : Tabs w) (hW : BwAt w B p v bs) (hB : 1 < B) (h2 : BwTo w w' B p v bs2) : Tabs w' := ⟨h.c.bw hW (by omega) h2, h.y.bw hW hB h2⟩
/-- What putting a number into a row leaves: r is the row's block, p the writer's. -/
def RowPut (w : World) (B p r : Nat) (v : Value) (bs : List Bool) (n last step x : Int) (e : Ending) (w' : World) : Prop :=
  e = .returned (.tuple #[]) ∧ RowBox w' r (n + 1) x (stepOf n last step x) ∧ ∃ v', BwAt w' B p v' (bs ++ nextB n last step x) ∧ (v'.ownBlock = v.ownBlock ∨ ∃ k, v'.ownBlock = some k ∧ w.heap.size ≤ k) ∧ Kept (fun k => k = p ∨ v.ownBlock = some k ∨ k = r) w w'

theorem rowPut_fin {w w1 w2 : World} {B p r : Nat} {v : Value} {bs : List Bool} {n last step x : Int} (HR : RowBox w r n last step) (hrp : r ≠ p) (hrv : v.ownBlock ≠ some r)
    (hto : BwTo w w1 B p v (bs ++ nextB n last step x)) (h2 : RowBox w2 r (n + 1) x (stepOf n last step x) ∧ Kept (fun k => k = r) w1 w2) : RowPut w B p r v bs n last step x (.returned (.tuple #[])) w2 := by
  obtain ⟨v1, h1, a1, k1⟩ := hto
  refine ⟨rfl, h2.1, v1, h1.kept h2.2 (fun e => hrp e.symm) ?_, a1, (k1.mono ?_).trans (h2.2.mono fun k _ e => .inr (.inr e))⟩
  · rintro k e rfl
    rcases a1 with a1 | ⟨g, e2, hg⟩
    · exact hrv (a1 ▸ e)
    · rw [e2] at e; cases e; have := HR.lt; omega
  · rintro k _ (h | h)
    · exact .inl h
    · exact .inr (.inl h)
theorem rowPut_mid {w w1 : World} {B p r : Nat} {v : Value} {bs : List Bool} {n last step : Int} (HR : RowBox w r n last step) (hrp : r ≠ p) (hrv : v.ownBlock ≠ some r) (hto : BwTo w w1 B p v bs) : RowBox w1 r n last step := by
  obtain ⟨v1, h1, a1, k1⟩ := hto
  exact HR.kept k1 (fun e => e.elim hrp hrv)

set_option maxHeartbeats 2000000 in
set_option maxRecDepth 100000 in
theorem rowPut_any (B p r : Nat) (v : Value) (bs : List Bool) (n last step x : Int) (w : World) (HW : BwAt w B p v bs) (hB0 : 1 < B) (hB : B ≤ w.heap.size) (HR : RowBox w r n last step) (hrp : r ≠ p) (hrv : v.ownBlock ≠ some r)
    (hn : 0 ≤ n) (hn2 : n ≤ 1000000) (h0 : -9223372036854775808 ≤ x) (h1 : x ≤ 9223372036854775807) (hl : bs.length ≤ 900000000) (HT : Tabs w) :
    Calls Tryd.prog 28 #[.pointer (some ⟨r, 0, none⟩), .pointer (some ⟨p, 0, none⟩), .int .i64 x] w (RowPut w B p r v bs n last step x) := by
  obtain ⟨c0, c1, c2⟩ := HR.c
  have HF := Lib.hid fun w1 w2 (hto : BwTo w w1 B p v (bs ++ nextB n last step x)) h2 => rowPut_fin (w2 := w2) HR hrp hrv hto h2
  have HM := Lib.hid fun w1 bs1 (hto : BwTo w w1 B p v bs1) => rowPut_mid HR hrp hrv hto
  have HG := Lib.hid fun w1 h => goOn_any r n last step x w1 h hn (by omega)
  by_cases hz : n = 0
  · subst hz
    have hb := Lib.hid (show nextB 0 last step x = smallB (zigN x) from if_pos rfl)
    obtain ⟨hz1, hz2⟩ := zigN_eq x h0 h1
    have HP := Lib.hid (varyPutInt_any B p v bs x _ w HW (by omega) hB h0 h1 hz1 hz2 hl HT.c)
    clear HW HT HR hz1 hz2
    go_enter Tryd.func28, Tryd.ntmps28
    go_wp2_with (first
      | (go_at_call 13; refine HP.out.mono ?_; rintro e w1 ⟨rfl, hto⟩; have HTO := Lib.hid hto; clear hto)
      | (go_at_call 59; refine (HG.out _ (HM.out _ _ HTO.out)).mono ?_; rintro e w2 ⟨rfl, h2⟩; have H2 := Lib.hid h2; clear h2))
    go_end0
    exact HF.out _ _ (by rw [hb.out]; exact HTO.out) H2.out
  · by_cases hz1 : n = 1
    · subst hz1
      have hb := Lib.hid (show nextB 1 last step x = smallB (zigN (diffI x last)) from rfl)
      obtain ⟨hd0, hd1⟩ := diffI_range x last
      obtain ⟨hz1, hz2⟩ := zigN_eq _ hd0 hd1
      have HP := Lib.hid (varyPutInt_any B p v bs _ _ w HW (by omega) hB hd0 hd1 hz1 hz2 hl HT.c)
      have hdf : wrap64 (x - last) = diffI x last := rfl
      obtain ⟨D, hD⟩ : ∃ D, D = diffI x last := ⟨_, rfl⟩
      rw [← hD] at HP hb hdf
      clear HW HT HR hz hz1 hz2 hd0 hd1 hD
      go_enter Tryd.func28, Tryd.ntmps28
      go_wp2_with (first
        | (go_at_call 13; refine HP.out.mono ?_; rintro e w1 ⟨rfl, hto⟩; have HTO := Lib.hid hto; clear hto)
        | (go_at_call 59; refine (HG.out _ (HM.out _ _ HTO.out)).mono ?_; rintro e w2 ⟨rfl, h2⟩; have H2 := Lib.hid h2; clear h2))
      go_end0
      exact HF.out _ _ (by rw [hb.out]; exact HTO.out) H2.out
    · have hb := Lib.hid (show nextB n last step x = stepB (diffI (diffI x last) step) from by unfold nextB; rw [if_neg hz, if_neg hz1])
      obtain ⟨hd0, hd1⟩ := diffI_range (diffI x last) step
      have q0 : (n == 0) = false := by simpa using hz
      have q1 : (n == 1) = false := by simpa using hz1
      have K : Kept (fun _ => False) w w.drew := (Kept.refl _ w).drew
      have HP := Lib.hid (putWay_any B p v bs _ w.drew (HW.keptF K) hB0 hB hd0 hd1 hl (HT.y.kept K))
      have hdf : IntKind.i64.wrap (x - last) = diffI x last := IntWalk.i64_left _
      obtain ⟨D, hD⟩ : ∃ D, D = diffI x last := ⟨_, rfl⟩
      rw [← hD] at HP hb hdf hd0 hd1
      have hdf2 : IntKind.i64.wrap (D - step) = diffI D step := IntWalk.i64_left _
      obtain ⟨D2, hD2⟩ : ∃ D2, D2 = diffI D step := ⟨_, rfl⟩
      rw [← hD2] at HP hb hdf2
      have hd : ∀ w2 l2, BwTo w.drew w2 B p v l2 → BwTo w w2 B p v l2 := by
        rintro w2 l2 ⟨v2, a, b, c⟩
        exact ⟨v2, a, b, ((Kept.refl _ w).drew).trans c⟩
      have HD := Lib.hid hd
      clear HW HT HR hz hz1 hd0 hd1 hD hD2 K hd
      go_enter Tryd.func28, Tryd.ntmps28
      go_wp2
      go_still_tail 12, (by kernel_rfl)
      change wpList _ _ _ _ _ w.drew
      go_wp2_with (first
        | (go_at_call 58; refine HP.out.mono ?_; rintro e w1 ⟨rfl, hto⟩; have HTO := Lib.hid (HD.out _ _ hto); clear hto)
        | (go_at_call 59; refine (HG.out _ (HM.out _ _ HTO.out)).mono ?_; rintro e w2 ⟨rfl, h2⟩; have H2 := Lib.hid h2; clear h2))
      go_end0
      exact HF.out _ _ (by rw [hb.out]; exact HTO.out) H2.out
end Go.Proofs.YtjpnfadmblmjbaaDoor
