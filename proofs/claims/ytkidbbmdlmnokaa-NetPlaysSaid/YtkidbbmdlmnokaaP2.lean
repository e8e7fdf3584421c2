/- package pack's writer: what it is in memory, and contracts of its calls. -/
import Derived.Test.YtkidbbmdlmnokaaP1
import Derived.Deep.RegionHeld3
import Derived.Deep.DrawnRows
import Derived.Lib.Hide
namespace Go.Proofs.Ytkidbbmdlmnokaa
open Go.RowKit
attribute [local go_sem ↓] Go.wp_at_zero Go.wp_at_succ

abbrev u8s (l : List Int) : List Value := l.map (Value.int .u8)

/-- The writer behind the pointer to block p holds the slice v, which owns the bytes l. -/
structure WrAt (T : TypeId) (E : TypeId) (w : World) (B p : Nat) (v : Value) (l : List Int) : Prop where
  base : B ≤ p
  box : w.heap[p]? = some (.cells #[v] T (0, 0))
  owns : w.ownsRow B E 1 v l.length (u8s l)
  apart : v.ownBlock ≠ some p

/-- What a call on it leaves. -/
def WrTo (T : TypeId) (E : TypeId) (w w' : World) (B p : Nat) (v : Value) (l' : List Int) : Prop :=
  ∃ v', WrAt T E w' B p v' l' ∧ (v'.ownBlock = v.ownBlock ∨ ∃ k, v'.ownBlock = some k ∧ w.heap.size ≤ k) ∧ Kept (fun k => k = p ∨ v.ownBlock = some k) w w'

theorem WrAt.to {T E : TypeId} {w : World} {B p : Nat} {v : Value} {l : List Int} (h : WrAt T E w B p v l) : WrTo T E w w B p v l :=
  ⟨v, h, .inl rfl, Kept.refl _ _⟩
theorem WrAt.lt {T E : TypeId} {w : World} {B p : Nat} {v : Value} {l : List Int} (h : WrAt T E w B p v l) : p < w.heap.size := (Array.getElem?_eq_some_iff.1 h.box).1
theorem WrAt.kept {T E : TypeId} {w w' : World} {B p : Nat} {v : Value} {l : List Int} {S : Nat → Prop} (h : WrAt T E w B p v l) (hk : Kept S w w') (hp : ¬ S p) (hv : ∀ k, v.ownBlock = some k → ¬ S k) : WrAt T E w' B p v l :=
  ⟨h.base, hk.same h.box hp, hk.owns h.owns hv, h.apart⟩

/-- A call's leavings taken apart: what the next call leaves is what both leave. -/
theorem WrTo.part {T E : TypeId} {w w1 : World} {B p : Nat} {v : Value} {l1 : List Int} (h : WrTo T E w w1 B p v l1) :
    ∃ v1, WrAt T E w1 B p v1 l1 ∧ w.heap.size ≤ w1.heap.size ∧ Hid (∀ w2 l2, WrTo T E w1 w2 B p v1 l2 → WrTo T E w w2 B p v l2) := by
  obtain ⟨v1, h1, a1, k1⟩ := h
  refine ⟨v1, h1, k1.size, fun w2 l2 k => ?_⟩
  obtain ⟨v2, h2, a2, k2⟩ := k
  refine ⟨v2, h2, ?_, k1.step k2 ?_⟩
  · rcases a2 with a2 | ⟨g, e, hg⟩
    · rw [a2]
      rcases a1 with a1 | a1
      · exact .inl a1
      · exact .inr a1
    · exact .inr ⟨g, e, Nat.le_trans k1.size hg⟩
  · intro k hk hS
    rcases hS with rfl | hS
    · exact .inl rfl
    · rcases a1 with a1 | ⟨g, e, hg⟩
      · exact .inr (a1 ▸ hS)
      · rw [e] at hS; cases hS; omega

/-- Behind an append and the store into the field. -/
theorem WrAt.pushed {T E : TypeId} {w wa w2 : World} {B p : Nat} {v v2 : Value} {l l2 : List Int} {m : Nat} (h : WrAt T E w B p v l) (hk : Kept (fun _ => False) w wa)
    (hown : w2.ownsRow B E 1 v2 (l.length + m) (u8s l ++ u8s l2)) (hg : wa.grownBy w2 v.ownBlock) (hm : m = l2.length)
    (hat : v2.ownBlock = v.ownBlock ∨ v2.ownBlock = some wa.heap.size) : WrTo T E w (w2.setCell ⟨p, 0, none⟩ v2) B p v (l ++ l2) := by
  have hp := h.lt
  have hpa : p < wa.heap.size := Nat.lt_of_lt_of_le hp hk.size
  have k2 : Kept (fun k => k = p ∨ v.ownBlock = some k) w w2 := (hk.mono (fun _ _ x => x.elim)).grown hg (fun k e _ => .inr e)
  have hbox : w2.heap[p]? = some (.cells #[v] T (0, 0)) := by
    rw [hg.block p hpa (fun e => h.apart e.symm)]
    exact hk.same h.box (fun x => x)
  have hne : v2.ownBlock ≠ some p := by
    rcases hat with e | e
    · rw [e]; exact h.apart
    · rw [e]; simp; omega
  refine ⟨v2, ⟨h.base, ?_, ?_, hne⟩, ?_, k2.setCell (fun _ => .inl rfl) v2⟩
  · exact one_setCell hbox
  · have := ((Kept.refl (fun k => k = p) w2).setCell (p := ⟨p, 0, none⟩) (fun _ => rfl) v2).owns hown (fun k e x => hne (by rw [e, x]))
    simpa [u8s, hm] using this
  · rcases hat with e | e
    · exact .inl e
    · exact .inr ⟨_, e, hk.size⟩

/-- Behind an append, ahead of the store: the box is as it was. -/
theorem WrAt.behind {T E : TypeId} {w wa w2 : World} {B p : Nat} {v : Value} {l : List Int} (h : WrAt T E w B p v l) (hk : Kept (fun _ => False) w wa) (hg : wa.grownBy w2 v.ownBlock) :
    w2.heap[p]? = some (.cells #[v] T (0, 0)) := by
  rw [hg.block p (Nat.lt_of_lt_of_le h.lt hk.size) (fun e => h.apart e.symm)]
  exact hk.same h.box (fun x => x)
theorem WrAt.cell {T E : TypeId} {w : World} {B p : Nat} {v : Value} {l : List Int} (h : WrAt T E w B p v l) : w.cell? ⟨p, 0, none⟩ = some v := cell_of_one h.box
theorem WrAt.free {T E : TypeId} {w : World} {B p : Nat} {v : Value} {l : List Int} (h : WrAt T E w B p v l) : w.frozen? ⟨p, 0, none⟩ = false := free_of_one h.box

theorem Try.info5 : (Try.prog.info? 5).map (fun i => (i.zero, i.size, i.bytes)) = some (some (.int .u8 0), 1, 1) := by kernel_rfl

set_option maxHeartbeats 400000 in
/-- (w *Writer) Raw, of a slice that owns its bytes, or is nil. -/
theorem raw_any (B p : Nat) (v : Value) (l l2 : List Int) (v2 : Value) (w : World) (h : WrAt 110 5 w B p v l) (hB : B ≤ w.heap.size)
    (hs : Src Try.prog 1 27 v2 l2.length (u8s l2) w) (hl : l.length + l2.length ≤ 1000000000) :
    Calls Try.prog 56 #[.pointer (some ⟨p, 0, none⟩), v2] w fun e w' => e = .returned (.tuple #[]) ∧ WrTo 110 5 w w' B p v (l ++ l2) := by
  obtain ⟨i0, hi, hz0, hz1, hz2⟩ := info_parts Try.info5
  have hc := h.cell
  have hf := h.free
  go_enter Try.func56, Try.ntmps56
  go_wp2_with (at_builtin; refine wpList_append_src _ rfl _ _ 27 27 rfl B 5 i0 (.int .u8 0) 1 1 Try.underlying27 hi hz0 hz1 hz2 rfl v l.length (u8s l) rfl h.owns v2 l2.length (u8s l2) rfl hs ?c1 ?c2 hB ?_)
  case c1 => unfold maxLen; omega
  case c2 => omega
  · intro v' w1 hown hg _ hat
    have hp := h.lt
    have hn : ¬ some p = v.ownBlock := fun e => h.apart e.symm
    obtain ⟨a', c', rfl⟩ := ownsRow_slice hown
    have hc1 := (hg.cell_far ⟨p, 0, none⟩ hp hn).trans hc
    have hf1 := (hg.frozen_far ⟨p, 0, none⟩ hp hn).trans hf
    have fin := h.pushed (Kept.refl _ _) hown hg rfl hat
    clear hown hg hat hs
    go_wp2
    go_end0
    exact ⟨rfl, fin⟩
end Go.Proofs.Ytkidbbmdlmnokaa
