/- Slices cut, in a seat without law 01 (the general parts of B13, B14). -/
import Derived.Test.YtaagjedkojlbpaaDoorVB6
namespace Go.Proofs.YtaagjedkojlbpaaDoor
open Go.RowKit
attribute [local go_sem ↓] Go.wp_at_zero Go.wp_at_succ

theorem SlAt.elem {w : World} {ao : Option Addr} {n c : Nat} {xs : List Value} (h : SlAt w (.slice ao n c) xs) {i : Nat} {u : Value} (hu : xs[i]? = some u) : ∃ g off, ao = some ⟨g, off, none⟩ ∧ w.cell? ⟨g, off + i, none⟩ = some u := by
  have hi := (List.getElem?_eq_some_iff.1 hu).1
  obtain ⟨g, off, c', e, hc⟩ := h.addr (by omega)
  injection e with e1 e2 e3
  exact ⟨g, off, e1, hc i u hu⟩
theorem SlAt.len {w : World} {ao : Option Addr} {n c : Nat} {xs : List Value} (h : SlAt w (.slice ao n c) xs) : xs.length = n := by
  obtain ⟨_, _, e, _⟩ := h.val
  injection e with e1 e2 e3
  exact e2.symm
theorem openE_full (l : List Nat) : openE l (8 * (l.length : Int)) = 0 := by
  unfold openE
  rw [if_neg (by omega), if_neg (by omega), if_neg (by omega)]
  have e : (8 * (l.length : Int)).toNat = 8 * l.length := by omega
  rw [e, List.drop_eq_nil_of_le (by simp)]; rfl

theorem run_cut {P : Program} {t E : TypeId} {i : TypeInfo} (ht : P.underlying t = some (.slice E)) (hi : P.info? E = some i) (hs : i.size = 1) (a : Option Addr) (len cap lo hi' : Nat) (hlo : lo ≤ hi') (hhi : hi' ≤ cap) (w : World) :
    (Instr.slice t (.slice a len cap) (some (.int .i64 (lo : Int))) (some (.int .i64 (hi' : Int))) none).run P w = .ok (.slice (if cap = lo then a else a.map (·.add lo)) (hi' - lo) (cap - lo)) w := by
  have he : P.elem t = E := by simp [Program.elem, ht]
  rw [run_slice_lh w t a len cap (by rw [he]; exact ht) .i64 .i64 lo hi' (by omega) (by omega) (by omega), he]
  simp [sizeOf, typeInfo, hi, hs, sliced]
theorem run_cutAt {P : Program} {t E : TypeId} {i : TypeInfo} (ht : P.underlying t = some (.slice E)) (hi : P.info? E = some i) (hs : i.size = 1) (a : Option Addr) (len cap lo hi' : Nat) (hlo : lo ≤ hi') (hhi : hi' ≤ cap) (w : World) :
    (Instr.sliceAt t (.slice a len cap) (some (.int .i64 (lo : Int))) (some (.int .i64 (hi' : Int))) none).run P w = .ok (.slice (if cap = lo then a else a.map (·.add lo)) (hi' - lo) (cap - lo)) w := by
  have he : P.elem t = E := by simp [Program.elem, ht]
  rw [run_sliceAt_slice w t _ _ _ _ (by rw [he]; exact ht)]
  exact run_cut ht hi hs a len cap lo hi' hlo hhi w
theorem add_add (a : Addr) (i j : Nat) : (a.add i).add j = a.add (i + j) := by
  unfold Addr.add
  by_cases hi : i = 0 <;> by_cases hj : j = 0 <;> simp [hi, hj, Nat.add_assoc]
theorem SlAt.cut {w : World} {ao : Option Addr} {n c : Nat} {xs : List Value} (h : SlAt w (.slice ao n c) xs) {lo hi : Nat} (h1 : lo ≤ hi) (h2 : hi ≤ n) (h3 : n ≤ c) :
    SlAt w (.slice (if c = lo then ao else ao.map (·.add lo)) (hi - lo) (c - lo)) ((xs.drop lo).take (hi - lo)) := by
  have hl := h.len
  obtain ⟨ao', c', e, hn, hc⟩ := h.val
  injection e with e1 e2 e3
  subst e1; subst e3
  have hlen : ((xs.drop lo).take (hi - lo)).length = hi - lo := by rw [List.length_take, List.length_drop]; omega
  refine ⟨_, _, by rw [hlen], ?_, ?_⟩
  · intro h0
    have hz : ao = none ∨ c = lo := by
      by_cases hcl : c = lo
      · exact .inr hcl
      · rw [if_neg hcl] at h0
        cases ao with
        | none => exact .inl rfl
        | some a => cases h0
    apply List.eq_nil_of_length_eq_zero
    rw [hlen]
    rcases hz with h0 | h0
    · have := hn h0; rw [this] at hl; simp at hl; omega
    · omega
  · intro a ha j u hu
    have hj : j < hi - lo := by have := (List.getElem?_eq_some_iff.1 hu).1; omega
    rw [if_neg (by omega)] at ha
    cases ao with
    | none => cases ha
    | some b =>
      cases ha
      rw [add_add]
      rw [List.getElem?_take, if_pos hj, List.getElem?_drop] at hu
      exact hc b rfl _ u hu
theorem own_cap {w : World} {B : Nat} {E : TypeId} {ao : Option Addr} {s n m c : Nat} {xs : List Value} (h : w.ownsRow B E s (.slice ao n c) m xs) : m ≤ c := by
  rcases h.2 with ⟨e, h0⟩ | ⟨g, cap, cur, e, _, _, hm, _⟩
  · omega
  · injection e with e1 e2 e3; omega

/-- What holds while bits are taken. -/
structure TakeInv (W w : World) (rp : Nat) (rv : Value) (bs : List Bool) (t : Nat) (av : Value) : Prop where
  rd : BrAt w W.heap.size rp rv bs t
  own : w.ownsRow W.heap.size 3 1 av bs.length (ints bs)
  kept : Kept (fun _ => False) W w
theorem add_zero' (a : Addr) : a.add 0 = a := by unfold Addr.add; simp
theorem run_cutH {P : Program} {t E : TypeId} {i : TypeInfo} (ht : P.underlying t = some (.slice E)) (hi : P.info? E = some i) (hs : i.size = 1) (a : Option Addr) (len cap h : Nat) (hhi : h ≤ cap) (w : World) :
    (Instr.slice t (.slice a len cap) none (some (.int .i64 (h : Int))) none).run P w = .ok (.slice a h cap) w := by
  have he : P.elem t = E := by simp [Program.elem, ht]
  rw [run_slice_h w t a len cap (by rw [he]; exact ht) .i64 h (by omega) (by omega), he]
  have e : (a.map fun x => x.add 0) = a := by cases a <;> simp [add_zero']
  simp [sizeOf, typeInfo, hi, hs, sliced, e]
theorem run_cutHAt {P : Program} {t E : TypeId} {i : TypeInfo} (ht : P.underlying t = some (.slice E)) (hi : P.info? E = some i) (hs : i.size = 1) (a : Option Addr) (len cap h : Nat) (hhi : h ≤ cap) (w : World) :
    (Instr.sliceAt t (.slice a len cap) none (some (.int .i64 (h : Int))) none).run P w = .ok (.slice a h cap) w := by
  have he : P.elem t = E := by simp [Program.elem, ht]
  rw [run_sliceAt_slice w t _ _ _ _ (by rw [he]; exact ht)]
  exact run_cutH ht hi hs a len cap h hhi w
theorem SlAt.takeH {w : World} {ao : Option Addr} {n c : Nat} {xs : List Value} (h : SlAt w (.slice ao n c) xs) {k : Nat} (hk : k ≤ n) : SlAt w (.slice ao k c) (xs.take k) := by
  have hl := h.len
  obtain ⟨ao', c', e, hn, hc⟩ := h.val
  injection e with e1 e2 e3
  subst e1; subst e3
  refine ⟨ao, c, by rw [List.length_take, Nat.min_eq_left (by omega)], fun h0 => by rw [hn h0]; simp, fun a ha j u hu => hc a ha j u ?_⟩
  rw [List.getElem?_take] at hu
  split at hu
  · exact hu
  · cases hu
theorem own_takeH {w : World} {B : Nat} {E : TypeId} {ao : Option Addr} {n c : Nat} {xs : List Value} (h : w.ownsRow B E 1 (.slice ao n c) n xs) {k : Nat} (hk : k ≤ n) : w.ownsRow B E 1 (.slice ao k c) k (xs.take k) := by
  refine ⟨by rw [List.length_take, h.1]; omega, ?_⟩
  rcases h.2 with ⟨e, h0⟩ | ⟨g, cap, cur, e, hb, hg, hnc, hcm, hcs, ht⟩
  · injection e with e1 e2 e3
    subst e1; subst e3
    exact .inl ⟨by rw [show k = 0 by omega], by omega⟩
  · injection e with e1 e2 e3
    subst e1; subst e3
    refine .inr ⟨g, c, cur, rfl, hb, hg, by omega, hcm, hcs, ?_⟩
    rw [← ht, List.take_take]
    congr 1
    omega

theorem bitsOf_take (l : List Nat) (n : Nat) (h : n ≤ 8 * l.length) : (bitsOf l).take n = bitsOf (l.take (n / 8)) ++ bitsN (l.getD (n / 8) 0 / 2 ^ (8 - n % 8)) (n % 8) := by
  have hsp : bitsOf l = bitsOf (l.take (n / 8)) ++ bitsOf (l.drop (n / 8)) := by rw [← bitsOf_append, List.take_append_drop]
  have hl : (bitsOf (l.take (n / 8))).length = 8 * (n / 8) := by rw [bitsOf_length, List.length_take]; omega
  rw [hsp, List.take_append, List.take_of_length_le (by rw [hl]; omega), hl]
  congr 1
  have e : n - 8 * (n / 8) = n % 8 := by omega
  rw [e]
  by_cases hr : n % 8 = 0
  · rw [hr]; simp [bitsN]
  · have hq : n / 8 < l.length := by omega
    rw [List.drop_eq_getElem_cons hq, bitsOf_cons, List.getD_eq_getElem?_getD, List.getElem?_eq_getElem hq]
    simp only [Option.getD_some]
    have e2 : bitsN l[n / 8] 8 = bitsN (l[n / 8] / 2 ^ (8 - n % 8)) (n % 8) ++ bitsN l[n / 8] (8 - n % 8) := by
      rw [← bitsN_add]; congr 1; omega
    rw [e2, List.append_assoc, List.take_append, List.take_of_length_le (by simp)]
    simp
end Go.Proofs.YtaagjedkojlbpaaDoor
