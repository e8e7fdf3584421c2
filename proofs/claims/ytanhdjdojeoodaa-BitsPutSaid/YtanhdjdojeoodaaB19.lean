/- Layer 1: 'some'; the walk of 'BitsPut'. -/
import Derived.Test.YtanhdjdojeoodaaB18
namespace Go.Proofs.Ytanhdjdojeoodaa
open Go.RowKit
attribute [local go_sem ↓] Go.wp_at_zero Go.wp_at_succ

/-- Are there few, and few bytes in each? -/
def fewR (rs : List PutRec) : Bool := decide (rs.length ≤ 100) && rs.all fun r => decide (r.lb.length ≤ 40)

theorem RecAt.kept {W w : World} {g o : Nat} {r : PutRec} (h : RecAt W g o r) (hk : Kept (fun _ => False) W w) : RecAt w g o r :=
  ⟨hk.cell h.ck (fun x => x), hk.cell h.cx (fun x => x), hk.cell h.cz (fun x => x), hk.cell h.cb (fun x => x), h.hx, h.hz, h.row.kept hk (fun _ _ x => x), h.hb, h.cap⟩
theorem RecsAt.kept {W w : World} {ao : Option Addr} {rs : List PutRec} (h : RecsAt W ao rs) (hk : Kept (fun _ => False) W w) : RecsAt w ao rs := fun h0 => by
  obtain ⟨g, o, e, hr⟩ := h h0
  exact ⟨g, o, e, fun i r hi => (hr i r hi).kept hk⟩

set_option maxHeartbeats 1000000 in
theorem some_any (ao : Option Addr) (c : Nat) (rs : List PutRec) (w : World) (hr : RecsAt w ao rs) (hl : rs.length ≤ 9223372036854775807) :
    Calls Try.prog 13 #[.slice ao rs.length c] w fun e w' => e = .returned (.bool (fewR rs)) ∧ w = w' := by
  by_cases h1 : 100 < rs.length
  · have HF : Hid (fewR rs = false) := by show _ = _; unfold fewR; rw [decide_eq_false (by omega)]; rfl
    have q1 : (100 : Int) < (rs.length : Int) := by omega
    go_enter Try.func13, Try.ntmps13
    go_wp2
    go_ret
    exact ⟨by rw [HF.out]; rfl, rfl⟩
  · have q1 : ¬ (100 : Int) < (rs.length : Int) := by omega
    have HF : Hid (fewR rs = rs.all fun r => decide (r.lb.length ≤ 40)) := by show _ = _; unfold fewR; rw [decide_eq_true (by omega)]; rfl
    have HR := Lib.hid hr
    clear hr
    go_enter Try.func13, Try.ntmps13
    go_wp2
    go_loopg [3] rs.length (fun g s3 wr => ∃ i : Nat, i ≤ rs.length ∧ g = rs.length - i ∧ s3 = .int .i64 i ∧ (rs.all fun r => decide (r.lb.length ≤ 40)) = ((rs.drop i).all fun r => decide (r.lb.length ≤ 40)) ∧ w = wr)
    case atStart => exact ⟨0, Nat.zero_le _, rfl, rfl, rfl, rfl⟩
    case round =>
      obtain ⟨i, hil, rfl, rfl, hall, rfl⟩ := hrel
      have HALL := Lib.hid hall
      clear hall
      by_cases hd : i < rs.length
      · obtain ⟨g, o, rfl, hrec⟩ := HR.out (by omega)
        have hi' := hrec i rs[i] (List.getElem?_eq_getElem hd)
        have hcb := hi'.cb
        have hdrop : (rs.drop i) = rs[i] :: rs.drop (i + 1) := List.drop_eq_getElem_cons hd
        obtain ⟨r, hrr⟩ : ∃ r, r = rs[i] := ⟨_, rfl⟩
        rw [← hrr] at hcb hdrop
        obtain ⟨L, hL⟩ : ∃ L, L = r.lb.length := ⟨_, rfl⟩
        rw [← hL] at hcb
        have hdi : (i : Int) < (rs.length : Int) := by omega
        have hdi0 : (0 : Int) ≤ (i : Int) := by omega
        have HD := Lib.hid hd
        have HDR := Lib.hid hdrop
        have HLL := Lib.hid hL
        by_cases h40 : 40 < L
        · have q2 : (40 : Int) < (L : Int) := by omega
          have H3 : Hid (fewR rs = false) := by
            show _ = _
            rw [HF.out, HALL.out, HDR.out, List.all_cons, decide_eq_false (by rw [← HLL.out]; omega)]; rfl
          clear hrec hi' hdrop hrr hL hd
          go_wp2
          go_ret
          exact ⟨by rw [H3.out]; rfl, rfl⟩
        · have q2 : ¬ (40 : Int) < (L : Int) := by omega
          have H3 : Hid ((rs.all fun r => decide (r.lb.length ≤ 40)) = ((rs.drop (i + 1)).all fun r => decide (r.lb.length ≤ 40))) := by
            show _ = _
            rw [HALL.out, HDR.out, List.all_cons, decide_eq_true (by rw [← HLL.out]; omega)]; rfl
          clear hrec hi' hdrop hrr hL hd
          go_wp2
          go_roundg (rs.length - (i + 1))
          case measure => have := HD.out; omega
          case rel => exact ⟨i + 1, HD.out, rfl, by go_num, H3.out, rfl⟩
      · obtain rfl : i = rs.length := by omega
        have H3 : Hid (fewR rs = true) := by show _ = _; rw [HF.out, HALL.out, List.drop_length]; rfl
        go_wp2
        go_ret
        exact ⟨by rw [H3.out]; rfl, rfl⟩

/-- What holds while bits are put down. -/
structure PutInv (W w : World) (p : Nat) (v : Value) (bs : List Bool) (av : Value) : Prop where
  wr : BwAt w W.heap.size p v bs
  own : w.ownsRow W.heap.size 3 1 av bs.length (ints bs)
  kept : Kept (fun _ => False) W w

theorem PutInv.keptF {W w w1 : World} {p : Nat} {v av : Value} {bs : List Bool} (h : PutInv W w p v bs av) (hk : Kept (fun _ => False) w w1) : PutInv W w1 p v bs av :=
  ⟨h.wr.keptF hk, hk.owns h.own (fun _ _ x => x), h.kept.trans hk⟩
/-- The writer has gone on; the list not yet. -/
theorem PutInv.wrote {W w w1 : World} {p : Nat} {v av : Value} {bs bs1 : List Bool} (h : PutInv W w p v bs av) (ht : BwTo w w1 W.heap.size p v bs1) :
    ∃ v1, BwAt w1 W.heap.size p v1 bs1 ∧ w1.ownsRow W.heap.size 3 1 av bs.length (ints bs) ∧ Kept (fun _ => False) W w1 ∧ (∀ k, k < w.heap.size → k ≠ p → v.ownBlock ≠ some k → w1.heap[k]? = w.heap[k]?) := by
  obtain ⟨v1, H1, _, K1⟩ := ht
  refine ⟨v1, H1, K1.owns h.own (fun k e hS => ?_), h.kept.after K1 (fun k hS => ?_), fun k hk hp hv => K1.block k hk (fun hS => hS.elim hp hv)⟩
  · rcases hS with rfl | hS
    · exact own_ne_blk h.own h.wr.box (by decide) e
    · exact own_ne h.own h.wr.owns (by decide) e hS
  · rcases hS with rfl | hS
    · exact h.wr.base
    · exact (ownsRow_lt h.wr.owns hS).2
/-- And now the list, too. -/
theorem PutInv.listed {W w1 wa w2 : World} {p n : Nat} {v1 av av2 : Value} {bs add : List Bool} (H1 : BwAt w1 W.heap.size p v1 (bs ++ add)) (ho : w1.ownsRow W.heap.size 3 1 av bs.length (ints bs)) (hk : Kept (fun _ => False) W w1)
    (ha : Kept (fun _ => False) w1 wa) (hown : w2.ownsRow W.heap.size 3 1 av2 n (ints bs ++ ints add)) (hn : n = bs.length + add.length) (hg : wa.grownBy w2 av.ownBlock) : PutInv W w2 p v1 (bs ++ add) av2 := by
  have k2 : Kept (fun k => av.ownBlock = some k) w1 w2 := (ha.mono (fun _ _ x => x.elim)).grown hg (fun k e _ => e)
  refine ⟨H1.kept k2 (fun e => own_ne_blk ho H1.box (by decide) e) (fun k e hS => own_ne ho H1.owns (by decide) hS e), ?_, hk.after k2 (fun k e => (ownsRow_lt ho e).2)⟩
  rw [List.length_append, ← hn, ints_append]; exact hown
end Go.Proofs.Ytanhdjdojeoodaa
