/- Texts put together: PF. -/
import Derived.Test.YtficodklidaheaaDoorZz2
import Derived.Test.YtficodklidaheaaDoorZz7
import Derived.Test.YtficodklidaheaaDoorZz5
import Derived.WalkKit
import Derived.WalkLawsBesides
import Derived.WalkSpells
import Derived.Deep.AppendSrc
import Derived.Deep.AppendLies
import Derived.Test.YtficodklidaheaaDoorRows
import Derived.Outline
import Derived.Deep.RegionHeld3
import Derived.Deep.DrawnRows
import Derived.Lib.Hide
import Derived.Deep.RegionLaw
import Derived.Deep.DeepCutAuto
import Derived.Deep.LoopGhost
import Derived.Deep.QuietTactic
import Derived.BigQuiet
import Derived.Lib.Strings
import Derived.Shelf.Small.Bits
import Derived.DataReads
import Derived.WideShapes
import Derived.ProofKit
import Derived.OpenShut
import Derived.Deep.Slices
import Derived.Deep.Fields
import Derived.ChangeSame
import Derived.Lib.ConvBytes
/- Layer 2: writers and readers of fixed numbers (written by tools/slice.py from PK Q7). -/

namespace Go.Proofs.YtficodklidaheaaDoor
open Go.RowKit
theorem wrap_u64_of (x : Int) (h0 : 0 ≤ x) (h1 : x ≤ 18446744073709551615) : IntKind.u64.wrap x = x := by
  rw [IntKind.wrap_u64]; omega
end Go.Proofs.YtficodklidaheaaDoor
namespace Go.Proofs.YtficodklidaheaaDoor
open Go.RowKit
end Go.Proofs.YtficodklidaheaaDoor
namespace Go.Proofs.YtficodklidaheaaDoor
open Go.RowKit
end Go.Proofs.YtficodklidaheaaDoor
namespace Go.Proofs.YtficodklidaheaaDoor
open Go.RowKit
/-- The byte at place j from the low end. -/
def byteI (v : Int) (j : Nat) : Int := v / ((256 ^ j : Nat) : Int) % 256
theorem byte_shift (v : Int) (s : Int) (j : Nat) (h : s = 8 * (j : Int)) : IntKind.u8.wrap (v / 2 ^ s.toNat) = byteI v j := by
  subst h
  rw [IntKind.wrap_u8]
  unfold byteI
  have e : (8 * (j : Int)).toNat = 8 * j := by omega
  have e2 : ((256 ^ j : Nat) : Int) = 2 ^ (8 * j) := by
    rw [show (256 : Nat) = 2 ^ 8 from rfl, ← Nat.pow_mul]; simp
  rw [e, e2]
end Go.Proofs.YtficodklidaheaaDoor

namespace Go.Proofs.YtficodklidaheaaDoor
open Go.RowKit
attribute [local go_sem ↓] Go.wp_at_zero Go.wp_at_succ
abbrev u8s (l : List Int) : List Value := l.map (Value.int .u8)
/-- The writer behind the pointer to block p holds the slice v, which owns the bytes l. -/
structure WrAt (T : TypeId) (E : TypeId) (w : World) (B p : Nat) (v : Value) (l : List Int) : Prop where
  base : B ≤ p
  box : w.heap[p]? = some (.cells #[v] T (0, 0))
  owns : w.ownsRow B E 1 v l.length (u8s l)
  apart : v.ownBlock ≠ some p
/-- What a call on it leaves. -/
def WrTo (T : TypeId) (E : TypeId) (w w' : World) (B p : Nat) (v : Value) (l' : List Int) : Prop :=
  ∃ v', WrAt T E w' B p v' l' ∧ (v'.ownBlock = v.ownBlock ∨ ∃ k, v'.ownBlock = some k ∧ w.heap.size ≤ k) ∧ Kept (fun k => k = p ∨ v.ownBlock = some k) w w'
theorem WrAt.to {T E : TypeId} {w : World} {B p : Nat} {v : Value} {l : List Int} (h : WrAt T E w B p v l) : WrTo T E w w B p v l :=
  ⟨v, h, .inl rfl, Kept.refl _ _⟩
theorem WrAt.lt {T E : TypeId} {w : World} {B p : Nat} {v : Value} {l : List Int} (h : WrAt T E w B p v l) : p < w.heap.size := (Array.getElem?_eq_some_iff.1 h.box).1
theorem WrAt.kept {T E : TypeId} {w w' : World} {B p : Nat} {v : Value} {l : List Int} {S : Nat → Prop} (h : WrAt T E w B p v l) (hk : Kept S w w') (hp : ¬ S p) (hv : ∀ k, v.ownBlock = some k → ¬ S k) : WrAt T E w' B p v l :=
  ⟨h.base, hk.same h.box hp, hk.owns h.owns hv, h.apart⟩
/-- A call's leavings taken apart: what the next call leaves is what both leave. -/
theorem WrTo.part {T E : TypeId} {w w1 : World} {B p : Nat} {v : Value} {l1 : List Int} (h : WrTo T E w w1 B p v l1) :
    ∃ v1, WrAt T E w1 B p v1 l1 ∧ w.heap.size ≤ w1.heap.size ∧ Hid (∀ w2 l2, WrTo T E w1 w2 B p v1 l2 → WrTo T E w w2 B p v l2) := by
  obtain ⟨v1, h1, a1, k1⟩ := h
  refine ⟨v1, h1, k1.size, fun w2 l2 k => ?_⟩
  obtain ⟨v2, h2, a2, k2⟩ := k
  refine ⟨v2, h2, ?_, k1.step k2 ?_⟩
  · rcases a2 with a2 | ⟨g, e, hg⟩
    · rw [a2]
      rcases a1 with a1 | a1
      · exact .inl a1
      · exact .inr a1
    · exact .inr ⟨g, e, Nat.le_trans k1.size hg⟩
  · intro k hk hS
    rcases hS with rfl | hS
    · exact .inl rfl
    · rcases a1 with a1 | ⟨g, e, hg⟩
      · exact .inr (a1 ▸ hS)
      · rw [e] at hS; cases hS; omega
/-- Behind an append and the store into the field. -/
theorem WrAt.pushed {T E : TypeId} {w wa w2 : World} {B p : Nat} {v v2 : Value} {l l2 : List Int} {m : Nat} (h : WrAt T E w B p v l) (hk : Kept (fun _ => False) w wa)
    (hown : w2.ownsRow B E 1 v2 (l.length + m) (u8s l ++ u8s l2)) (hg : wa.grownBy w2 v.ownBlock) (hm : m = l2.length)
    (hat : v2.ownBlock = v.ownBlock ∨ v2.ownBlock = some wa.heap.size) : WrTo T E w (w2.setCell ⟨p, 0, none⟩ v2) B p v (l ++ l2) := by
  have hp := h.lt
  have hpa : p < wa.heap.size := Nat.lt_of_lt_of_le hp hk.size
  have k2 : Kept (fun k => k = p ∨ v.ownBlock = some k) w w2 := (hk.mono (fun _ _ x => x.elim)).grown hg (fun k e _ => .inr e)
  have hbox : w2.heap[p]? = some (.cells #[v] T (0, 0)) := by
    rw [hg.block p hpa (fun e => h.apart e.symm)]
    exact hk.same h.box (fun x => x)
  have hne : v2.ownBlock ≠ some p := by
    rcases hat with e | e
    · rw [e]; exact h.apart
    · rw [e]; simp; omega
  refine ⟨v2, ⟨h.base, ?_, ?_, hne⟩, ?_, k2.setCell (fun _ => .inl rfl) v2⟩
  · exact one_setCell hbox
  · have := ((Kept.refl (fun k => k = p) w2).setCell (p := ⟨p, 0, none⟩) (fun _ => rfl) v2).owns hown (fun k e x => hne (by rw [e, x]))
    simpa [u8s, hm] using this
  · rcases hat with e | e
    · exact .inl e
    · exact .inr ⟨_, e, hk.size⟩
/-- Behind an append, ahead of the store: the box is as it was. -/
theorem WrAt.behind {T E : TypeId} {w wa w2 : World} {B p : Nat} {v : Value} {l : List Int} (h : WrAt T E w B p v l) (hk : Kept (fun _ => False) w wa) (hg : wa.grownBy w2 v.ownBlock) :
    w2.heap[p]? = some (.cells #[v] T (0, 0)) := by
  rw [hg.block p (Nat.lt_of_lt_of_le h.lt hk.size) (fun e => h.apart e.symm)]
  exact hk.same h.box (fun x => x)
theorem WrAt.cell {T E : TypeId} {w : World} {B p : Nat} {v : Value} {l : List Int} (h : WrAt T E w B p v l) : w.cell? ⟨p, 0, none⟩ = some v := cell_of_one h.box
theorem WrAt.free {T E : TypeId} {w : World} {B p : Nat} {v : Value} {l : List Int} (h : WrAt T E w B p v l) : w.frozen? ⟨p, 0, none⟩ = false := free_of_one h.box
theorem Tryd.info5 : (Tryd.prog.info? 5).map (fun i => (i.zero, i.size, i.bytes)) = some (some (.int .u8 0), 1, 1) := by kernel_rfl
end Go.Proofs.YtficodklidaheaaDoor

namespace Go.Proofs.YtficodklidaheaaDoor
open Go.RowKit
attribute [local go_sem ↓] Go.wp_at_zero Go.wp_at_succ
theorem u8s_one (l : List Int) : ∀ u ∈ u8s l, u.oneCell' = true := by
  intro u hu; obtain ⟨x, _, rfl⟩ := List.mem_map.1 hu; rfl
/-- A new slice of the bytes l. -/
def Fresh (E : TypeId) (w w' : World) (v : Value) (l : List Int) : Prop :=
  w'.ownsRow w.heap.size E 1 v l.length (u8s l) ∧ Kept (fun _ => False) w w'
def Cloned (E : TypeId) (w : World) (l : List Int) (e : Ending) (w' : World) : Prop := ∃ v, e = .returned v ∧ Fresh E w w' v l
/-- The value v is a slice whose elements, of one cell each, read as xs. -/
structure SliceAt (w : World) (v : Value) (ao : Option Addr) (n c : Nat) (xs : List Value) : Prop where
  val : v = .slice ao n c
  len : xs.length = n
  none : ao = none → n = 0
  cells : ∀ a, ao = some a → ∀ j u, xs[j]? = some u → w.cell? (a.add j) = some u
theorem SliceAt.src {P : Program} {w : World} {v : Value} {ao : Option Addr} {n c : Nat} {xs : List Value} (h : SliceAt w v ao n c xs) {t e : TypeId} (hk : P.underlying t = some (.slice e)) (h1 : ∀ u ∈ xs, u.oneCell' = true) : Src P 1 t v n xs w := by
  obtain ⟨rfl, hl, hn, hc⟩ := h
  cases ao with
  | none =>
    obtain rfl := hn rfl
    have : xs = [] := List.eq_nil_of_length_eq_zero hl
    subst this
    exact Src.ofNil _ hk _
  | some a => exact Src.ofSlice _ hk _ n c xs (by omega) (hc a rfl) h1
theorem SliceAt.to {w w' : World} {v : Value} {ao : Option Addr} {n c : Nat} {xs : List Value} (h : SliceAt w v ao n c xs) (hk : ∀ p u, w.cell? p = some u → (∀ a, ao = some a → p.block = a.block) → w'.cell? p = some u) : SliceAt w' v ao n c xs := by
  refine ⟨h.val, h.len, h.none, fun a ha j u hu => hk _ _ (h.cells a ha j u hu) ?_⟩
  intro a' ha'
  rw [ha] at ha'; cases ha'
  unfold Addr.add; split <;> rfl
theorem SliceAt.alloc {w : World} {v : Value} {ao : Option Addr} {n c : Nat} {xs : List Value} (h : SliceAt w v ao n c xs) (o : Obj) : SliceAt (w.alloc o) v ao n c xs :=
  h.to fun _ _ hp _ => ((Kept.refl (fun _ => False) w).alloc o).cell hp fun x => x
theorem SliceAt.kept {S : Nat → Prop} {w w' : World} {v : Value} {ao : Option Addr} {n c : Nat} {xs : List Value} (h : SliceAt w v ao n c xs) (hk : Kept S w w') (hn : ∀ a, ao = some a → ¬ S a.block) : SliceAt w' v ao n c xs := by
  refine ⟨h.val, h.len, h.none, fun a ha j u hu => ?_⟩
  refine hk.cell (h.cells a ha j u hu) ?_
  have : (a.add j).block = a.block := by unfold Addr.add; split <;> rfl
  rw [this]; exact hn a ha
theorem SliceAt.ofOwn {w : World} {base : Nat} {e : TypeId} {v : Value} {n : Nat} {xs : List Value} (ho : w.ownsRow base e 1 v n xs) : ∃ ao c, SliceAt w v ao n c xs ∧ v.ownBlock = ao.map (·.block) := by
  obtain ⟨a, cap, rfl⟩ := ownsRow_slice ho
  refine ⟨a, cap, ⟨rfl, by simpa using ho.1, ?_, ?_⟩, by cases a <;> rfl⟩
  · rintro rfl
    rcases ho.2 with ⟨_, rfl⟩ | ⟨g, cap, cur, e, _⟩
    · rfl
    · cases e
  · rintro a rfl j u hu
    rcases ho.2 with ⟨e, _⟩ | ⟨g, cap', cur, e, _⟩
    · cases e
    · injection e with e1 e2 e3
      injection e1 with e1
      subst e1
      exact ho.cells rfl j u hu
set_option maxHeartbeats 400000 in
theorem clone_any (v : Value) (ao : Option Addr) (c : Nat) (l : List Int) (w : World) (hv : SliceAt w v ao l.length c (u8s l)) (hl : l.length ≤ 100000000000) :
    Calls Tryd.prog 60 #[v] w (Cloned 5 w l) := by
  obtain ⟨i0, hi, hz0, hz1, hz2⟩ := info_parts Tryd.info5
  have q29 := fun (w : World) (a : Option Addr) (n c n' c' : Nat) => Lib.run_eql_slice_nil (P := Tryd.prog) w 22 5 a n c n' c' Tryd.underlying22
  obtain rfl := hv.val
  cases ao with
  | none =>
    have hn : l = [] := List.eq_nil_of_length_eq_zero (hv.none rfl)
    subst hn
    go_enter Tryd.func60, Tryd.ntmps60
    go_wp2
    go_ret
    exact ⟨_, rfl, World.ownsRow_nil _ _ _ _, Kept.refl _ _⟩
  | some a =>
    have hs := (hv.alloc (.cells #[] 5)).src Tryd.underlying22 (u8s_one l)
    have hown0 : (w.alloc (.cells #[] 5)).ownsRow w.heap.size 5 1 (.slice (some ⟨w.heap.size, 0, none⟩) 0 0) 0 [] :=
      ⟨rfl, .inr ⟨w.heap.size, 0, #[], rfl, Nat.le_refl _, heap_alloc_new w _, Nat.le_refl _, by unfold maxLen; omega, rfl, rfl⟩⟩
    go_enter Tryd.func60, Tryd.ntmps60
    go_wp2_with (at_builtin; refine wpList_append_src _ rfl (.tmp 5) (.tmp 6) 22 22 rfl w.heap.size 5 i0 (.int .u8 0) 1 1 Tryd.underlying22 hi hz0 hz1 hz2 rfl (.slice (some ⟨w.heap.size, 0, none⟩) 0 0) 0 [] rfl hown0 (.slice (some a) l.length c) l.length (u8s l) rfl hs ?c1 ?c2 ?c3 ?_)
    case c1 => unfold maxLen; omega
    case c2 => omega
    case c3 => first | omega | (simp; try omega)
    · intro v' w1 hown hg _ hat
      have hk : Kept (fun _ => False) w w1 := ((Kept.refl _ w).alloc _).grown hg (fun k hk hlt => by simp [Value.ownBlock] at hk; omega)
      have hf : Fresh 5 w w1 v' l := ⟨by simpa using hown, hk⟩
      clear hown hg hat hs hown0
      go_wp2
      go_ret
      exact ⟨v', rfl, hf⟩
set_option maxHeartbeats 400000 in
theorem newWriter_any (w : World) :
    Calls Tryd.prog 86 #[] w fun e w' => e = .returned (.pointer (some ⟨w.heap.size, 0, none⟩)) ∧ w' = w.alloc (.cells #[.slice none 0 0] 155) := by
  go_enter Tryd.func86, Tryd.ntmps86
  go_wp2
  go_ret
  exact ⟨rfl, rfl⟩
theorem newWriter_at (B : Nat) (w : World) (hB : B ≤ w.heap.size) : WrAt 155 5 (w.alloc (.cells #[.slice none 0 0] 155)) B w.heap.size (.slice none 0 0) [] :=
  ⟨hB, heap_alloc_new w _, World.ownsRow_nil _ _ _ _, by simp [Value.ownBlock]⟩
set_option maxHeartbeats 400000 in
theorem wbytes_any (B p : Nat) (v : Value) (l : List Int) (w : World) (HW : WrAt 155 5 w B p v l) (hl : l.length ≤ 100000000000) :
    Calls Tryd.prog 88 #[.pointer (some ⟨p, 0, none⟩)] w (Cloned 5 w l) := by
  have hc := HW.cell
  obtain ⟨ao, cp, hv, _⟩ := SliceAt.ofOwn HW.owns
  obtain rfl := hv.val
  go_enter Tryd.func88, Tryd.ntmps88
  go_wp2_with fail
  refine (clone_any _ ao cp l w hv hl).mono ?_
  rintro e w' ⟨v', rfl, hf⟩
  go_wp2
  go_ret
  exact ⟨v', rfl, hf⟩
end Go.Proofs.YtficodklidaheaaDoor

namespace Go.Proofs.YtficodklidaheaaDoor
open Go.RowKit
attribute [local go_sem ↓] Go.wp_at_zero Go.wp_at_succ
/-- The reader behind the pointer to block p has the bytes l, of which at are taken, and the error e. -/
structure RdAt (T E : TypeId) (w : World) (B p : Nat) (v : Value) (l : List Int) (at' : Nat) (e : Int) : Prop where
  base : B ≤ p
  box : w.heap[p]? = some (.cells #[v, .int .i64 at', .int .i64 e] T (0, 0))
  owns : w.ownsRow B E 1 v l.length (u8s l)
  apart : v.ownBlock ≠ some p
  taken : at' ≤ l.length
  byte : ∀ x ∈ l, 0 ≤ x ∧ x < 256
theorem RdAt.lt {T E : TypeId} {w : World} {B p : Nat} {v : Value} {l : List Int} {t : Nat} {e : Int} (h : RdAt T E w B p v l t e) : p < w.heap.size := (Array.getElem?_eq_some_iff.1 h.box).1
theorem RdAt.kept {T E : TypeId} {w w' : World} {B p : Nat} {v : Value} {l : List Int} {t : Nat} {e : Int} {S : Nat → Prop} (h : RdAt T E w B p v l t e) (hk : Kept S w w') (hp : ¬ S p) (hv : ∀ k, v.ownBlock = some k → ¬ S k) : RdAt T E w' B p v l t e :=
  ⟨h.base, hk.same h.box hp, hk.owns h.owns hv, h.apart, h.taken, h.byte⟩
theorem RdAt.drewN {T E : TypeId} {w : World} {B p : Nat} {v : Value} {l : List Int} {t : Nat} {e : Int} (h : RdAt T E w B p v l t e) (q : Nat) : RdAt T E (w.drewN q) B p v l t e :=
  h.kept ((Kept.refl (fun _ => False) w).drewN q) (fun x => x) (fun _ _ x => x)
theorem RdAt.c0 {T E : TypeId} {w : World} {B p : Nat} {v : Value} {l : List Int} {t : Nat} {e : Int} (h : RdAt T E w B p v l t e) : w.cell? ⟨p, 0, none⟩ = some v := by rw [cell_of_row w p 0 _ _ _ h.box]; rfl
theorem RdAt.c1 {T E : TypeId} {w : World} {B p : Nat} {v : Value} {l : List Int} {t : Nat} {e : Int} (h : RdAt T E w B p v l t e) : w.cell? ⟨p, 1, none⟩ = some (.int .i64 t) := by rw [cell_of_row w p 1 _ _ _ h.box]; rfl
theorem RdAt.c2 {T E : TypeId} {w : World} {B p : Nat} {v : Value} {l : List Int} {t : Nat} {e : Int} (h : RdAt T E w B p v l t e) : w.cell? ⟨p, 2, none⟩ = some (.int .i64 e) := by rw [cell_of_row w p 2 _ _ _ h.box]; rfl
def Drawn (w w' : World) (P : Prop) : Prop := P ∧ ∃ q, w' = w.drewN q
set_option maxHeartbeats 400000 in
theorem left_any (B p : Nat) (v : Value) (l : List Int) (t : Nat) (e : Int) (w : World) (HR : RdAt 152 5 w B p v l t e) (hl : l.length ≤ 100000000000) :
    Calls Tryd.prog 105 #[.pointer (some ⟨p, 0, none⟩)] w fun e w' => Drawn w w' (e = .returned (.int .i64 ((l.length : Int) - t))) := by
  have hc := HR.c0
  have hc1 := HR.c1
  have ht := HR.taken
  have e1 : IntKind.i64.wrap ((l.length : Int) - (t : Int)) = (l.length : Int) - (t : Int) := IntWalk.i64_in _ ⟨by omega, by omega⟩
  obtain ⟨ao, cp, rfl⟩ := ownsRow_slice HR.owns
  go_enter Tryd.func105, Tryd.ntmps105
  go_wp2
  go_quiet (fail)
  go_wp2
  go_ret
  exact ⟨rfl, _, rfl⟩
/-- What NewReader leaves: a reader of its own copy. -/
def ReaderMade (T E : TypeId) (w : World) (l : List Int) (e : Ending) (w' : World) : Prop :=
  ∃ p v, e = .returned (.pointer (some ⟨p, 0, none⟩)) ∧ RdAt T E w' w.heap.size p v l 0 0 ∧ Kept (fun _ => False) w w'
set_option maxHeartbeats 400000 in
theorem newReader_any (v : Value) (ao : Option Addr) (c : Nat) (l : List Int) (w : World) (hv : SliceAt w v ao l.length c (u8s l)) (hl : l.length ≤ 100000000000) (hb : ∀ x ∈ l, 0 ≤ x ∧ x < 256) :
    Calls Tryd.prog 82 #[v] w (ReaderMade 152 5 w l) := by
  obtain rfl := hv.val
  go_enter Tryd.func82, Tryd.ntmps82
  go_wp2_with fail
  refine (clone_any _ ao c l w hv hl).mono ?_
  rintro e w' ⟨v', rfl, hown, hk⟩
  have hsz := hk.size
  have fin : ReaderMade 152 5 w l (.returned (.pointer (some ⟨w'.heap.size, 0, none⟩))) (w'.alloc (.cells #[v', .int .i64 0, .int .i64 0] 152)) := by
    refine ⟨w'.heap.size, v', rfl, ⟨hsz, heap_alloc_new w' _, hown.alloc _, ?_, Nat.zero_le _, hb⟩, hk.alloc _⟩
    intro h
    have := (ownsRow_lt hown h).1
    omega
  obtain ⟨a', c', rfl⟩ := ownsRow_slice hown
  clear hown hk
  go_wp2
  go_ret
  exact fin
end Go.Proofs.YtficodklidaheaaDoor

namespace Go.Proofs.YtficodklidaheaaDoor
open Go.RowKit
/-- How many bits from the top on are set in a byte. -/
def lo (b : Int) : Nat := 8 - Lib.bitLen (255 - b).toNat
end Go.Proofs.YtficodklidaheaaDoor

namespace Go.Proofs.YtficodklidaheaaDoor
open Go.RowKit
attribute [local go_sem ↓] Go.wp_at_zero Go.wp_at_succ
theorem RdAt.free {T E : TypeId} {w : World} {B p : Nat} {v : Value} {l : List Int} {t : Nat} {e : Int} (h : RdAt T E w B p v l t e) (j : Nat) : w.frozen? ⟨p, j, none⟩ = false := by
  simp [World.frozen?, h.box]
theorem RdAt.setErr {T E : TypeId} {w : World} {B p : Nat} {v : Value} {l : List Int} {t : Nat} {e e2 : Int} (h : RdAt T E w B p v l t e) : RdAt T E (w.setCell ⟨p, 2, none⟩ (.int .i64 e2)) B p v l t e2 := by
  refine ⟨h.base, ?_, ?_, h.apart, h.taken, h.byte⟩
  · have e := h.box
    simp [World.setCell, Array.getElem?_modify, e]
  · exact ((Kept.refl (fun k => k = p) w).setCell (p := ⟨p, 2, none⟩) (fun _ => rfl) _).owns h.owns (fun k e x => h.apart (by rw [e, x]))
end Go.Proofs.YtficodklidaheaaDoor

namespace Go.Proofs.YtficodklidaheaaDoor
open Go.RowKit
attribute [local go_sem ↓] Go.wp_at_zero Go.wp_at_succ
theorem RdAt.setAt {T E : TypeId} {w : World} {B p : Nat} {v : Value} {l : List Int} {t t2 : Nat} {e : Int} (h : RdAt T E w B p v l t e) (ht : t2 ≤ l.length) : RdAt T E (w.setCell ⟨p, 1, none⟩ (.int .i64 t2)) B p v l t2 e := by
  refine ⟨h.base, ?_, ?_, h.apart, ht, h.byte⟩
  · have e := h.box
    simp [World.setCell, Array.getElem?_modify, e]
  · exact ((Kept.refl (fun k => k = p) w).setCell (p := ⟨p, 1, none⟩) (fun _ => rfl) _).owns h.owns (fun k e x => h.apart (by rw [e, x]))
end Go.Proofs.YtficodklidaheaaDoor

namespace Go.Proofs.YtficodklidaheaaDoor
open Go.RowKit
attribute [local go_sem ↓] Go.wp_at_zero Go.wp_at_succ
/-- What is answered of bytes from a place on. -/
def Got (r : Int × Nat × Int) : Value := .agg #[.int .u64 r.1, .int .i64 r.2.1, .int .i64 r.2.2]
theorem SliceAt.addr {w : World} {v : Value} {ao : Option Addr} {n c : Nat} {l : List Int} (h : SliceAt w v ao n c (u8s l)) (hp : 0 < l.length) :
    ∃ b off, ao = some ⟨b, off, Option.none⟩ ∧ ∀ j, j < l.length → w.cell? ⟨b, off + j, Option.none⟩ = some (.int .u8 (l.getD j 0)) := by
  cases ao with
  | none => have := h.none rfl; have h2 := h.len; simp [u8s] at h2; omega
  | some a =>
    have hc : ∀ i, i < l.length → w.cell? (a.add i) = some (.int .u8 (l.getD i 0)) := fun i hi => h.cells a rfl i _ (by simp [u8s, List.getD_eq_getElem?_getD, List.getElem?_eq_getElem hi])
    obtain ⟨b, off, spot⟩ := a
    have hspot : spot = Option.none := by simpa [Addr.add] using World.cell?_spot (hc 0 hp)
    subst hspot
    exact ⟨b, off, rfl, fun j hj => by rw [← Go.WideShapes.add_plain]; exact hc j hj⟩
theorem getD_mem {l : List Int} {i : Nat} (h : i < l.length) : l.getD i 0 ∈ l := by rw [List.getD_eq_getElem?_getD, List.getElem?_eq_getElem h]; simp
end Go.Proofs.YtficodklidaheaaDoor

namespace Go.Proofs.YtficodklidaheaaDoor
open Go.RowKit
attribute [local go_sem ↓] Go.wp_at_zero Go.wp_at_succ
set_option maxHeartbeats 400000 in
set_option maxRecDepth 100000 in
theorem done_err (B p : Nat) (v : Value) (l : List Int) (t : Nat) (e : Int) (w : World) (HR : RdAt 152 5 w B p v l t e) (he : (e == 0) = false) :
    Calls Tryd.prog 84 #[.pointer (some ⟨p, 0, none⟩)] w fun e' w' => Drawn w w' (e' = .returned (.int .i64 e)) := by
  have hc2 := HR.c2
  go_enter Tryd.func84, Tryd.ntmps84
  go_wp2
  go_ret
  exact ⟨rfl, 0, rfl⟩
set_option maxHeartbeats 400000 in
set_option maxRecDepth 100000 in
theorem done_ok (B p : Nat) (v : Value) (l : List Int) (t : Nat) (w : World) (HR : RdAt 152 5 w B p v l t 0) (hl : l.length ≤ 100000000000) :
    Calls Tryd.prog 84 #[.pointer (some ⟨p, 0, none⟩)] w fun e' w' => Drawn w w' (e' = .returned (.int .i64 (if t = l.length then 0 else 3))) := by
  have hc2 := HR.c2
  have ht := HR.taken
  by_cases h : t = l.length
  · have q : ¬ (0 : Int) < (l.length : Int) - (t : Int) := by omega
    clear h
    go_enter Tryd.func84, Tryd.ntmps84
    go_wp2_with (go_at_call 105; refine (left_any B p _ l t 0 _ HR hl).mono ?_; rintro e w' ⟨rfl, q, rfl⟩)
    go_ret
    exact ⟨rfl, _, rfl⟩
  · have q : (0 : Int) < (l.length : Int) - (t : Int) := by omega
    go_enter Tryd.func84, Tryd.ntmps84
    go_wp2_with (go_at_call 105; refine (left_any B p _ l t 0 _ HR hl).mono ?_; rintro e w' ⟨rfl, q, rfl⟩)
    go_ret
    exact ⟨rfl, _, rfl⟩
/-- A slice of bytes that came in. -/
theorem IsRow.bytes {w : World} {a : Option Addr} {len cap : Nat} {zs : List Int} (h : IsRow .u8 w a len cap zs) :
    ∃ l : List Int, l.length = len ∧ SliceAt w (.slice a len cap) a len cap (u8s l) ∧ len ≤ cap ∧ ∀ x ∈ l, 0 ≤ x ∧ x < 256 := by
  rcases h with ⟨rfl, rfl, rfl, rfl⟩ | ⟨x, rfl, hl, _, hz, hc, hw⟩
  · exact ⟨[], rfl, ⟨rfl, rfl, (fun _ => rfl), (fun a ha => by cases ha)⟩, Nat.le_refl _, (fun x hx => by cases hx)⟩
  · refine ⟨zs.take len, by rw [List.length_take]; omega, ⟨rfl, by simp [u8s]; omega, (fun h => by cases h), fun a ha j u hu => ?_⟩, hl, fun y hy => ?_⟩
    · cases ha
      have hj : j < len := by
        have := (List.getElem?_eq_some_iff.1 hu).1
        simp [u8s] at this; omega
      rw [hc j (by omega)]
      have e : (u8s (zs.take len))[j]? = some (.int .u8 (zs.getD j 0)) := by simp [u8s, hj, List.getD_eq_getElem?_getD, show j < zs.length by omega]
      rw [e] at hu
      exact hu
    · have := bd_u8 (hw y (List.mem_of_mem_take hy))
      omega
end Go.Proofs.YtficodklidaheaaDoor

namespace Go.Proofs.YtficodklidaheaaDoor
open Go.RowKit
attribute [local go_sem ↓] Go.wp_at_zero Go.wp_at_succ
/-- A fixed number's bytes, so many. -/
def fixK (v : Int) (j : Nat) : List Int := (List.range j).map (byteI v)
def fixB (v : Int) : List Int := fixK v 8
theorem fixK_succ (v : Int) (j : Nat) : fixK v (j + 1) = fixK v j ++ [byteI v j] := by unfold fixK; rw [List.range_succ, List.map_append]; rfl
@[simp] theorem fixK_length (v : Int) (j : Nat) : (fixK v j).length = j := by simp [fixK]
set_option maxHeartbeats 2000000 in
theorem wfix_any (B p : Nat) (v : Value) (l : List Int) (x : Int) (w : World) (HW : WrAt 155 5 w B p v l) (hB : B ≤ w.heap.size)
    (hl : l.length ≤ 1000000000) :
    Calls Tryd.prog 87 #[.pointer (some ⟨p, 0, none⟩), .int .u64 x] w fun e w' => e = .returned (.tuple #[]) ∧ WrTo 155 5 w w' B p v (l ++ fixB x) := by
  obtain ⟨i0, hi, hz0, hz1, hz2⟩ := info_parts Tryd.info5
  have hst : WrTo 155 5 w w B p v (l ++ fixK x 0) := by simpa [fixK] using HW.to
  clear HW
  go_enter Tryd.func87, Tryd.ntmps87
  go_wp2
  go_loopg [5] 8 (fun g s5 wr => ∃ j : Nat, j ≤ 8 ∧ g = 8 - j ∧ s5 = .int .i64 j ∧ WrTo 155 5 w wr B p v (l ++ fixK x j))
  case atStart => exact ⟨0, Nat.zero_le _, rfl, rfl, hst⟩
  case round =>
    obtain ⟨j, hj, rfl, rfl, hto⟩ := hrel
    clear hst
    by_cases hd : j < 8
    · have hj0 : (0 : Int) ≤ (j : Int) := by omega
      have hj1 : (j : Int) < 8 := by omega
      obtain ⟨d, hdd⟩ : ∃ d, d = 8 * j := ⟨_, rfl⟩
      have e6 : IntKind.i64.wrap (8 * (j : Int)) = (d : Int) := by rw [IntWalk.i64_in _ ⟨by omega, by omega⟩]; omega
      have e7 : 8 * (j : Int) = (d : Int) := by omega
      have e8 : (d : Int) ≤ 64 := by omega
      have e10 : IntKind.i64.wrap (d : Int) = (d : Int) := IntWalk.i64_in _ ⟨by omega, by omega⟩
      have e9 : (0 : Int) ≤ (d : Int) := by omega
      obtain ⟨v1, HW1, hsz1, back⟩ := hto.part
      have hB1 : B ≤ wr.heap.size := Nat.le_trans hB hsz1
      have hlen1 : (l ++ fixK x j).length ≤ 1000000010 := by simp; omega
      obtain ⟨l1, hl1⟩ : ∃ l1, l1 = l ++ fixK x j := ⟨_, rfl⟩
      rw [← hl1] at HW1 hlen1
      obtain ⟨y, hy⟩ : ∃ y, y = byteI x j := ⟨_, rfl⟩
      have hyv : IntKind.u8.wrap (x / 2 ^ d) = y := by
        have := byte_shift x (8 * (j : Int)) j rfl
        rw [hy, ← this, e7]; rfl
      have hyv2 : x / 2 ^ d % 256 = y := by rw [← hyv, IntKind.wrap_u8]
      have HL1 := Lib.hid hl1
      have HY := Lib.hid hy
      have HD := Lib.hid hd
      have hc1 := HW1.cell
      have hf1 := HW1.free
      have hp1 := HW1.lt
      obtain ⟨ao1, cp1, rfl⟩ := ownsRow_slice HW1.owns
      clear hto hl1 hy hdd hd
      go_wp2
      go_region_law
        ((refine step_append_src _ (by rfl) (.tmp 12) (.tmp 18) 22 22 (by rfl) B 5 i0 (.int .u8 0) 1 1 Tryd.underlying22 hi hz0 hz1 hz2 rfl (.slice ao1 l1.length cp1) l1.length (u8s l1) (by rfl) (by exact (HW1.owns.alloc _).drew) (.slice (some ⟨wr.heap.size, 0, none⟩) 1 1) 1 [(.int .u8 y)] (by rfl) (by exact src_one_drew wr Tryd.underlying22 (.int .u8 y) rfl) (by unfold maxLen; omega) (by omega) (by simp; omega) ?_; intro v1 w1 hown hg _ hat; obtain ⟨a1, c1, rfl⟩ := ownsRow_slice hown; have hk1 : Kept (fun _ => False) wr (wr.alloc (.cells #[(.int .u8 y)] 5)).drew := ((Kept.refl _ _).alloc _).drew; have hbox := HW1.behind hk1 hg; have hc1 := cell_of_one hbox; have hf1 := free_of_one hbox))
      all_goals
        have fin := Lib.hid (back.out _ _ (HW1.pushed (l2 := [y]) hk1 hown hg rfl hat))
        clear hown hg hat
        go_wp2
        go_roundg (8 - (j + 1))
        case measure => have := HD.out; omega
        case rel =>
          have e : l1 ++ [y] = l ++ fixK x (j + 1) := by rw [HL1.out, List.append_assoc, fixK_succ, HY.out]
          exact ⟨j + 1, HD.out, rfl, by go_num, by rw [← e]; exact fin.out⟩
    · obtain rfl : j = 8 := by omega
      go_wp2
      go_end0
      exact ⟨rfl, hto⟩
end Go.Proofs.YtficodklidaheaaDoor

namespace Go.Proofs.YtficodklidaheaaDoor
open Go.RowKit
attribute [local go_sem ↓] Go.wp_at_zero Go.wp_at_succ
theorem wrun_cut {P : Program} {t E : TypeId} {i : TypeInfo} (ht : P.underlying t = some (.slice E)) (hi : P.info? E = some i) (hs : i.size = 1) (a : Option Addr) (len cap lo hi' : Nat) (hlo : lo ≤ hi') (hhi : hi' ≤ cap) (w : World) :
    (Instr.slice t (.slice a len cap) (some (.int .i64 (lo : Int))) (some (.int .i64 (hi' : Int))) none).run P w = .ok (.slice (if cap = lo then a else a.map (·.add lo)) (hi' - lo) (cap - lo)) w := by
  have he : P.elem t = E := by simp [Program.elem, ht]
  rw [run_slice_lh w t a len cap (by rw [he]; exact ht) .i64 .i64 lo hi' (by omega) (by omega) (by omega), he]
  simp [sizeOf, typeInfo, hi, hs, sliced]
theorem wrun_cutAt {P : Program} {t E : TypeId} {i : TypeInfo} (ht : P.underlying t = some (.slice E)) (hi : P.info? E = some i) (hs : i.size = 1) (a : Option Addr) (len cap lo hi' : Nat) (hlo : lo ≤ hi') (hhi : hi' ≤ cap) (w : World) :
    (Instr.sliceAt t (.slice a len cap) (some (.int .i64 (lo : Int))) (some (.int .i64 (hi' : Int))) none).run P w = .ok (.slice (if cap = lo then a else a.map (·.add lo)) (hi' - lo) (cap - lo)) w := by
  have he : P.elem t = E := by simp [Program.elem, ht]
  rw [run_sliceAt_slice w t _ _ _ _ (by rw [he]; exact ht)]
  exact wrun_cut ht hi hs a len cap lo hi' hlo hhi w
theorem wadd_add (a : Addr) (i j : Nat) : (a.add i).add j = a.add (i + j) := by
  unfold Addr.add
  by_cases hi : i = 0 <;> by_cases hj : j = 0 <;> simp [hi, hj, Nat.add_assoc]
theorem own_capW {w : World} {B : Nat} {E : TypeId} {ao : Option Addr} {s n m c : Nat} {xs : List Value} (h : w.ownsRow B E s (.slice ao n c) m xs) : m ≤ c := by
  rcases h.2 with ⟨e, h0⟩ | ⟨g, cap, cur, e, _, _, hm, _⟩
  · omega
  · injection e with e1 e2 e3; omega
theorem SliceAt.cut {w : World} {ao : Option Addr} {n c : Nat} {l : List Int} (h : SliceAt w (.slice ao n c) ao n c (u8s l)) {lo hi : Nat} (h1 : lo ≤ hi) (h2 : hi ≤ n) (h3 : n ≤ c) :
    SliceAt w (.slice (if c = lo then ao else ao.map (·.add lo)) (hi - lo) (c - lo)) (if c = lo then ao else ao.map (·.add lo)) (hi - lo) (c - lo) (u8s ((l.drop lo).take (hi - lo))) := by
  have hl := h.len
  have hll : l.length = n := by simpa [u8s] using hl
  have hlen : (u8s ((l.drop lo).take (hi - lo))).length = hi - lo := by simp [u8s]; omega
  refine ⟨rfl, hlen, fun h0 => ?_, fun a ha j u hu => ?_⟩
  · by_cases hcl : c = lo
    · omega
    · rw [if_neg hcl] at h0
      cases ao with
      | none => have := h.none rfl; omega
      | some a => cases h0
  · have hj : j < hi - lo := by have := (List.getElem?_eq_some_iff.1 hu).1; omega
    rw [if_neg (by omega)] at ha
    cases ao with
    | none => cases ha
    | some b =>
      cases ha
      rw [wadd_add]
      refine h.cells b rfl _ u ?_
      unfold u8s at hu ⊢
      rw [List.getElem?_map, List.getElem?_take, if_pos hj, List.getElem?_drop] at hu
      rw [List.getElem?_map]; exact hu
/-- What next answers: the bytes, how many are taken, the error. -/
def nextF (l : List Int) (t : Nat) (e n : Int) : List Int × Nat × Int :=
  if e ≠ 0 then ([], 0, e) else if n < 0 then ([], 0, 1) else if (l.length : Int) - t < n then ([], 0, 2) else ((l.drop t).take n.toNat, n.toNat, 0)
/-- What it leaves. -/
def Nexted (w : World) (B p : Nat) (v : Value) (l : List Int) (t : Nat) (r : List Int × Nat × Int) (e : Ending) (w' : World) : Prop :=
  ∃ vs ao c, e = .returned vs ∧ SliceAt w' vs ao r.1.length c (u8s r.1) ∧ RdAt 152 5 w' B p v l (t + r.2.1) r.2.2 ∧ Kept (fun k => k = p) w w' ∧ (∀ a, ao = some a → a.block < w'.heap.size)
theorem Nexted.drewN {w w' : World} {B p : Nat} {v : Value} {l : List Int} {t : Nat} {r : List Int × Nat × Int} {e : Ending} (h : Nexted w B p v l t r e w') (n : Nat) : Nexted w B p v l t r e (w'.drewN n) := by
  obtain ⟨vs, ao, c, h1, h2, h3, h4, h5⟩ := h
  exact ⟨vs, ao, c, h1, h2.kept ((Kept.refl (fun _ => False) w').drewN n) (fun _ _ x => x), h3.drewN n, h4.drewN n, h5⟩
theorem sliceAt_nil (w : World) : SliceAt w (.slice none 0 0) none 0 0 (u8s []) := ⟨rfl, rfl, fun _ => rfl, fun a h => by cases h⟩
set_option maxHeartbeats 1000000 in
set_option maxRecDepth 100000 in
theorem rnext_all (B p : Nat) (v : Value) (l : List Int) (t : Nat) (e n : Int) (w : World) (HR : RdAt 152 5 w B p v l t e) (hl : l.length ≤ 100000000000) :
    Calls Tryd.prog 104 #[.pointer (some ⟨p, 0, none⟩), .int .i64 n] w (Nexted w B p v l t (nextF l t e n)) := by
  obtain ⟨i0, hi, hz0, hz1, hz2⟩ := info_parts Tryd.info5
  have hc2 := HR.c2
  have htk := HR.taken
  by_cases he : e = 0
  · subst he
    by_cases hn : n < 0
    · have fin : Hid (Nexted w B p v l t (nextF l t 0 n) (.returned (.slice none 0 0)) (w.setCell ⟨p, 2, none⟩ (.int .i64 1))) := by
        show Nexted _ _ _ _ _ _ _ _ _
        have h : nextF l t 0 n = ([], 0, 1) := by unfold nextF; rw [if_neg (by simp), if_pos hn]
        rw [h]; exact ⟨_, _, _, rfl, sliceAt_nil _, HR.setErr, (Kept.refl (fun k => k = p) w).setCell (p := ⟨p, 2, none⟩) (fun _ => rfl) _, fun a h => by cases h⟩
      have hf2 := HR.free 2
      clear HR
      go_enter Tryd.func104, Tryd.ntmps104
      go_wp2
      go_ret
      exact fin.out
    · have hn0 : 0 ≤ n := by omega
      by_cases hs : (l.length : Int) - t < n
      · have fin : Hid (∀ q, Nexted w B p v l t (nextF l t 0 n) (.returned (.slice none 0 0)) ((w.drewN q).setCell ⟨p, 2, none⟩ (.int .i64 2))) := by
          show ∀ q, Nexted _ _ _ _ _ _ _ _ _
          have h : nextF l t 0 n = ([], 0, 2) := by unfold nextF; rw [if_neg (by simp), if_neg hn, if_pos hs]
          rw [h]; exact fun q => ⟨_, _, _, rfl, sliceAt_nil _, (HR.drewN q).setErr, ((Kept.refl (fun k => k = p) w).drewN q).setCell (p := ⟨p, 2, none⟩) (fun _ => rfl) _, fun a h => by cases h⟩
        have HLF := Lib.hid (left_any B p v l t 0 w HR hl)
        have hf2 : ∀ q, (w.drewN q).frozen? ⟨p, 2, none⟩ = false := fun q => (HR.drewN q).free 2
        have hc3 : ∀ q, (w.drewN q).cell? ⟨p, 2, none⟩ = some (.int .i64 0) := fun q => (HR.drewN q).c2
        clear HR
        go_enter Tryd.func104, Tryd.ntmps104
        go_wp2_with (go_at_call 105; refine HLF.out.mono ?_; rintro e w' ⟨rfl, q, rfl⟩)
        go_ret
        exact fin.out _
      · obtain ⟨m, rfl⟩ : ∃ m : Nat, n = m := ⟨n.toNat, by omega⟩
        obtain ⟨T2, hT2⟩ : ∃ T2, T2 = t + m := ⟨_, rfl⟩
        have e2 : (t : Int) + (m : Int) = (T2 : Int) := by omega
        have e3 : IntKind.i64.wrap (T2 : Int) = (T2 : Int) := IntWalk.i64_in _ ⟨by omega, by omega⟩
        have e4 : (T2 : Int) - (m : Int) = (t : Int) := by omega
        have e5 : IntKind.i64.wrap (t : Int) = (t : Int) := IntWalk.i64_in _ ⟨by omega, by omega⟩
        obtain ⟨aa, ca, rfl⟩ := ownsRow_slice HR.owns
        have hcap := own_capW HR.owns
        obtain ⟨A2, hA2⟩ : ∃ A2, A2 = (if ca = t then aa else aa.map (·.add t)) := ⟨_, rfl⟩
        obtain ⟨c2, hcc⟩ : ∃ c2, c2 = ca - t := ⟨_, rfl⟩
        have hm2 : T2 - t = m := by omega
        have s1 := fun w => wrun_cut (P := Tryd.prog) Tryd.underlying22 hi hz1 aa l.length ca t T2 (by omega) (by omega) w
        have s2 := fun w => wrun_cutAt (P := Tryd.prog) Tryd.underlying22 hi hz1 aa l.length ca t T2 (by omega) (by omega) w
        rw [← hA2, ← hcc, hm2] at s1 s2
        have hcell : ∀ q, ((w.drewN q).setCell ⟨p, 1, none⟩ (.int .i64 (T2 : Int))).cell? ⟨p, 0, none⟩ = some (.slice aa l.length ca) ∧ ((w.drewN q).setCell ⟨p, 1, none⟩ (.int .i64 (T2 : Int))).cell? ⟨p, 1, none⟩ = some (.int .i64 (T2 : Int)) := fun q => by
          have := (HR.drewN q).setAt (t2 := T2) (by omega)
          exact ⟨this.c0, this.c1⟩
        have fin : Hid (∀ q, Nexted w B p (.slice aa l.length ca) l t (nextF l t 0 m) (.returned (.slice A2 m c2)) ((w.drewN q).setCell ⟨p, 1, none⟩ (.int .i64 (T2 : Int)))) := by
          show ∀ q, Nexted _ _ _ _ _ _ _ _ _
          have h : nextF l t 0 m = ((l.drop t).take m, m, 0) := by unfold nextF; rw [if_neg (by simp), if_neg hn, if_neg hs]; rfl
          rw [h]
          intro q
          have H2 := (HR.drewN q).setAt (t2 := T2) (by omega)
          obtain ⟨ao', c', hv, hob⟩ := SliceAt.ofOwn H2.owns
          have hvv := hv.val
          injection hvv with h1 h2 h3
          subst h1; subst h3
          have h5 := hv.cut (lo := t) (hi := T2) (by omega) (by omega) hcap
          rw [← hA2, ← hcc, hm2] at h5
          have h6 : ((l.drop t).take m).length = m := by rw [List.length_take, List.length_drop]; omega
          refine ⟨_, A2, c2, rfl, by simp only [h6]; exact h5, by simp only; rw [← hT2]; exact H2, ((Kept.refl (fun k => k = p) w).drewN q).setCell (p := ⟨p, 1, none⟩) (fun _ => rfl) _, fun a ha => ?_⟩
          rw [hA2] at ha
          have hblk : ∃ b, aa = some b ∧ a.block = b.block := by
            split at ha
            · exact ⟨a, ha, rfl⟩
            · cases aa with
              | none => cases ha
              | some b => cases ha; exact ⟨b, rfl, by unfold Addr.add; split <;> rfl⟩
          obtain ⟨b, hb1, hb2⟩ := hblk
          rw [hb2]
          exact (ownsRow_lt H2.owns (k := b.block) (by rw [hob, hb1]; rfl)).1
        have HLF := Lib.hid (left_any B p (.slice aa l.length ca) l t 0 w HR hl)
        have hf1 : ∀ q, (w.drewN q).frozen? ⟨p, 1, none⟩ = false := fun q => (HR.drewN q).free 1
        have hc1 : ∀ q, (w.drewN q).cell? ⟨p, 1, none⟩ = some (.int .i64 (t : Int)) := fun q => (HR.drewN q).c1
        have hns : ¬ (l.length : Int) - (t : Int) < (m : Int) := hs
        clear HR hA2 hcc hm2 hT2 hcap hs
        go_enter Tryd.func104, Tryd.ntmps104
        go_wp2_with (go_at_call 105; refine HLF.out.mono ?_; rintro e w' ⟨rfl, q, rfl⟩)
        have hc5 := (hcell q).1
        have hc6 := (hcell q).2
        clear hcell
        go_quiet (fail)
        go_wp2
        go_ret
        exact (fin.out _).drewN _
  · have q2 : (e != 0) = true := by simp [he]
    have fin : Hid (Nexted w B p v l t (nextF l t e n) (.returned (.slice none 0 0)) w) := by
      show Nexted _ _ _ _ _ _ _ _ _
      have h : nextF l t e n = ([], 0, e) := by unfold nextF; rw [if_pos he]
      rw [h]; exact ⟨_, _, _, rfl, sliceAt_nil _, HR, Kept.refl _ _, fun a h => by cases h⟩
    clear HR
    go_enter Tryd.func104, Tryd.ntmps104
    go_wp2
    go_ret
    exact fin.out
end Go.Proofs.YtficodklidaheaaDoor

namespace Go.Proofs.YtficodklidaheaaDoor
open Go.RowKit
/-- A fixed number's value. -/
def leV (bs : List Int) : Nat → Int
  | 0 => 0
  | k + 1 => leV bs k + bs.getD k 0 * ((256 ^ k : Nat) : Int)
def hiV (bs : List Int) : Nat → Int
  | 0 => 0
  | k + 1 => 256 * hiV bs k + bs.getD (7 - k) 0
theorem hiV_leV (bs : List Int) : hiV bs 8 = leV bs 8 := by
  simp only [hiV, leV, Nat.reduceSub, Nat.reducePow]
  omega
theorem leV_range (bs : List Int) (hb : ∀ x ∈ bs, 0 ≤ x ∧ x < 256) (k : Nat) : 0 ≤ leV bs k ∧ leV bs k < ((256 ^ k : Nat) : Int) := by
  induction k with
  | zero => simp [leV]
  | succ k ih =>
    have hd : 0 ≤ bs.getD k 0 ∧ bs.getD k 0 ≤ 255 := by
      rw [List.getD_eq_getElem?_getD]
      cases h : bs[k]? with
      | none => simp
      | some x => have := hb x (List.mem_of_getElem? h); simp; omega
    unfold leV
    obtain ⟨P, hP⟩ : ∃ P : Int, P = ((256 ^ k : Nat) : Int) := ⟨_, rfl⟩
    have e : ((256 ^ (k + 1) : Nat) : Int) = P * 256 := by rw [Nat.pow_succ, Int.natCast_mul, hP]; rfl
    rw [← hP] at ih ⊢
    rw [e]
    have p0 : 0 ≤ P := by omega
    have m1 : 0 ≤ bs.getD k 0 * P := Int.mul_nonneg hd.1 p0
    have m2 : bs.getD k 0 * P ≤ 255 * P := Int.mul_le_mul_of_nonneg_right hd.2 p0
    omega
theorem or_shift (V c : Int) (i : Nat) (hi : i < 8) (h0 : 0 ≤ V) (h1 : V < ((256 ^ i : Nat) : Int)) (c0 : 0 ≤ c) (c1 : c < 256) :
    IntKind.u64.wrap (c * ((256 ^ i : Nat) : Int)) = c * ((256 ^ i : Nat) : Int) ∧ bits .or .u64 V (c * ((256 ^ i : Nat) : Int)) = V + c * ((256 ^ i : Nat) : Int) := by
  obtain ⟨a, rfl⟩ : ∃ a : Nat, V = a := ⟨V.toNat, by omega⟩
  obtain ⟨d, rfl⟩ : ∃ d : Nat, c = d := ⟨c.toNat, by omega⟩
  have hp : 256 ^ i = 2 ^ (8 * i) := by rw [Nat.pow_mul]
  have h7 : 256 ^ i ≤ 256 ^ 7 := Nat.pow_le_pow_right (by decide) (by omega)
  have h8 : (256 : Nat) ^ 7 = 72057594037927936 := by decide
  have hm : d * 256 ^ i ≤ 255 * 256 ^ i := Nat.mul_le_mul_right _ (by omega)
  have ea : a < 256 ^ i := by omega
  have e1 : (d : Int) * ((256 ^ i : Nat) : Int) = ((d * 256 ^ i : Nat) : Int) := by rw [Int.natCast_mul]
  rw [e1]
  refine ⟨wrap_u64_of _ (by omega) (by omega), ?_⟩
  rw [u64_or _ _ (by omega) (by omega) (by omega) (by omega), Int.toNat_natCast, Int.toNat_natCast, Nat.or_comm, nat_join (8 * i) _ _ (by rw [hp]; exact Nat.mul_mod_left _ _) (by rw [← hp]; exact ea)]
  omega
end Go.Proofs.YtficodklidaheaaDoor

namespace Go.Proofs.YtficodklidaheaaDoor
open Go.RowKit
attribute [local go_sem ↓] Go.wp_at_zero Go.wp_at_succ
theorem nextF_err {l : List Int} {t : Nat} {e n : Int} (h : (nextF l t e n).2.2 ≠ 0) : (nextF l t e n).1 = [] ∧ (nextF l t e n).2.1 = 0 := by
  unfold nextF at h ⊢
  split
  · exact ⟨rfl, rfl⟩
  · split
    · exact ⟨rfl, rfl⟩
    · split
      · exact ⟨rfl, rfl⟩
      · rename_i h1 h2 h3
        rw [if_neg h1, if_neg h2, if_neg h3] at h
        exact absurd rfl h
/-- What Fix answers. -/
def fixF (l : List Int) (t : Nat) (e : Int) : Int × Nat × Int := if (nextF l t e 8).2.2 ≠ 0 then (0, 0, (nextF l t e 8).2.2) else (leV (l.drop t) 8, 8, 0)
theorem leV_take (l : List Int) (n k : Nat) (h : k ≤ n) : leV (l.take n) k = leV l k := by
  induction k with
  | zero => rfl
  | succ k ih =>
    unfold leV
    rw [ih (by omega), List.getD_eq_getElem?_getD, List.getElem?_take, if_pos (by omega), List.getD_eq_getElem?_getD]
set_option maxHeartbeats 1000000 in
set_option maxRecDepth 100000 in
theorem rfix_all (B p : Nat) (v : Value) (l : List Int) (t : Nat) (e : Int) (w : World) (HR : RdAt 152 5 w B p v l t e) (hl : l.length ≤ 100000000000) :
    Calls Tryd.prog 83 #[.pointer (some ⟨p, 0, none⟩)] w fun e' w' => e' = .returned (.int .u64 (fixF l t e).1) ∧ RdAt 152 5 w' B p v l (t + (fixF l t e).2.1) (fixF l t e).2.2 ∧ Kept (fun k => k = p) w w' := by
  have HN := Lib.hid (rnext_all B p v l t e 8 w HR hl)
  have hff : fixF l t e = if (nextF l t e 8).2.2 ≠ 0 then (0, 0, (nextF l t e 8).2.2) else (leV (l.drop t) 8, 8, 0) := rfl
  have hne := @nextF_err l t e 8
  have hok : (nextF l t e 8).2.2 = 0 → (nextF l t e 8).1 = (l.drop t).take 8 ∧ (nextF l t e 8).2.1 = 8 ∧ t + 8 ≤ l.length := by
    unfold nextF
    split
    · intro h; simp only at h; contradiction
    · split
      · intro h; omega
      · split
        · intro h; simp at h
        · intro _; exact ⟨rfl, rfl, by omega⟩
  obtain ⟨T, hT⟩ : ∃ T, T = fixF l t e := ⟨_, rfl⟩
  obtain ⟨r, hr⟩ : ∃ r, r = nextF l t e 8 := ⟨_, rfl⟩
  rw [← hr] at HN hff hne hok
  rw [← hT] at hff ⊢
  obtain ⟨bs, k, e2⟩ := r
  simp only at hff hne hok
  have hbyte := HR.byte
  have HFF := Lib.hid hff
  have HNE := Lib.hid hne
  have HOK := Lib.hid hok
  clear hr hT HR hff hne hok
  go_enter Tryd.func83, Tryd.ntmps83
  go_wp2_with fail
  refine HN.out.mono ?_
  rintro e' w2 ⟨vs, ao, cc, rfl, hsl, HR2, K2, _⟩
  simp only at hsl HR2
  have hc2 := HR2.c2
  have H2 := Lib.hid HR2
  have K12 := Lib.hid K2
  clear K2 HR2
  by_cases he : e2 = 0
  · subst he
    obtain ⟨hb, hk, h8⟩ := HOK.out rfl
    have hbl : bs.length = 8 := by rw [hb, List.length_take, List.length_drop]; omega
    have hbb : ∀ x ∈ bs, 0 ≤ x ∧ x < 256 := fun x hx => by rw [hb] at hx; exact hbyte x (List.mem_of_mem_drop (List.mem_of_mem_take hx))
    have hfv : T = (leV bs 8, 8, 0) := by rw [HFF.out, if_neg (by simp), hb, leV_take _ 8 8 (by omega)]
    obtain ⟨g, off, rfl, hcells⟩ := hsl.addr (by omega)
    obtain rfl := hsl.val
    rw [hbl]
    have HC := Lib.hid hcells
    have HBB := Lib.hid hbb
    have HFV := Lib.hid hfv
    have fin : Hid (RdAt 152 5 w2 B p v l (t + T.2.1) T.2.2 ∧ T.1 = leV bs 8) := by
      show _ ∧ _
      rw [HFV.out]
      have := H2.out
      rw [hk] at this
      exact ⟨this, rfl⟩
    have HBL := Lib.hid hbl
    have hst : leV bs 0 = 0 := rfl
    clear hb hk h8 hfv hbb hcells hsl hbyte hbl
    go_wp2
    go_loopg [4, 13] 8 (fun g0 s4 s13 wr => ∃ j : Nat, j ≤ 8 ∧ g0 = 8 - j ∧ s13 = .int .i64 j ∧ s4 = .int .u64 (leV bs j) ∧ w2 = wr)
    case atStart => exact ⟨0, Nat.zero_le _, rfl, rfl, by rw [hst], rfl⟩
    case round =>
      obtain ⟨j, hj, rfl, rfl, rfl, rfl⟩ := hrel
      clear hst
      by_cases hd : j < 8
      · have hcl := HC.out j (by rw [HBL.out]; exact hd)
        have hyr := HBB.out _ (getD_mem (l := bs) (i := j) (by rw [HBL.out]; exact hd))
        obtain ⟨y, hy⟩ : ∃ y, y = bs.getD j 0 := ⟨_, rfl⟩
        obtain ⟨V, hV⟩ : ∃ V, V = leV bs j := ⟨_, rfl⟩
        have hVr := leV_range bs HBB.out j
        have hnx : leV bs (j + 1) = leV bs j + bs.getD j 0 * ((256 ^ j : Nat) : Int) := rfl
        rw [← hy] at hcl hyr hnx
        rw [← hV] at hVr hnx ⊢
        obtain ⟨s1, s2⟩ := or_shift V y j hd hVr.1 hVr.2 hyr.1 hyr.2
        rw [← hnx] at s2
        have hp : 256 ^ j = 2 ^ (8 * j) := by rw [Nat.pow_mul]
        obtain ⟨d, hdd⟩ : ∃ d, d = 8 * j := ⟨_, rfl⟩
        have e6 : IntKind.i64.wrap (8 * (j : Int)) = (d : Int) := by rw [IntWalk.i64_in _ ⟨by omega, by omega⟩]; omega
        have e7 : 8 * (j : Int) = (d : Int) := by omega
        have e8 : (d : Int) ≤ 64 := by omega
        have e10 : IntKind.i64.wrap (d : Int) = (d : Int) := IntWalk.i64_in _ ⟨by omega, by omega⟩
        have e9 : (0 : Int) ≤ (d : Int) := by omega
        rw [hp, ← hdd] at s1 s2
        obtain ⟨Z, hZ⟩ : ∃ Z, Z = y * ((2 ^ d : Nat) : Int) := ⟨_, rfl⟩
        rw [← hZ] at s1 s2
        have z1 : y * 2 ^ d = Z := by rw [hZ]; simp
        obtain ⟨V2, hV2⟩ : ∃ V2, V2 = leV bs (j + 1) := ⟨_, rfl⟩
        rw [← hV2] at s2
        have y3 : IntKind.u64.wrap y = y := wrap_u64_of _ (by omega) (by omega)
        have HD := Lib.hid hd
        have HV2 := Lib.hid hV2
        have hj0 : (0 : Int) ≤ (j : Int) := by omega
        have hj1 : (j : Int) < 8 := by omega
        have hjn : ((j : Int)).toNat = j := by omega
        clear hp hdd hZ hV2 hnx hV hy hVr hyr
        go_wp2
        go_roundg (8 - (j + 1))
        case measure => have := HD.out; omega
        case rel => exact ⟨j + 1, HD.out, rfl, by go_num, by rw [← HV2.out], rfl⟩
      · obtain rfl : j = 8 := by omega
        obtain ⟨V, hV⟩ : ∃ V, V = leV bs 8 := ⟨_, rfl⟩
        rw [← hV] at fin ⊢
        clear hV
        go_wp2
        go_ret
        exact ⟨by rw [fin.out.2]; rfl, fin.out.1, K12.out⟩
  · have q2 : (e2 != 0) = true := by simp [he]
    obtain ⟨hb, hk⟩ := HNE.out he
    have fin : Hid (RdAt 152 5 w2 B p v l (t + T.2.1) T.2.2 ∧ T.1 = 0) := by
      show _ ∧ _
      rw [HFF.out, if_pos he]
      have := H2.out
      rw [hk] at this
      exact ⟨this, rfl⟩
    clear hb hk hsl hbyte
    go_wp2
    go_ret
    exact ⟨by rw [fin.out.2]; rfl, fin.out.1, K12.out⟩
/-- What the document reads as a fixed number. -/
def getFixF (l : List Int) (t : Nat) : Int × Nat × Int := if l.length - t < 8 then (0, 0, 2) else (leV (l.drop t) 8, 8, 0)
set_option maxHeartbeats 1000000 in
set_option maxRecDepth 100000 in
theorem getFix_any (v : Value) (ao : Option Addr) (c : Nat) (l : List Int) (t : Nat) (w : World) (hv : SliceAt w v ao l.length c (u8s l)) (hb : ∀ x ∈ l, 0 ≤ x ∧ x < 256) (hl : l.length ≤ 100000000000) (ht : t ≤ l.length) :
    Calls Tryd.prog 85 #[v, .int .i64 t] w fun e w' => e = .returned (Got (getFixF l t)) ∧ Kept (fun _ => False) w w' := by
  obtain rfl := hv.val
  by_cases hA : l.length - t < 8
  · have HL : Hid (getFixF l t = (0, 0, 2)) := by show _ = _; unfold getFixF; rw [if_pos hA]
    have q1 : (l.length : Int) - (t : Int) < 8 := by omega
    go_enter Tryd.func85, Tryd.ntmps85
    go_wp2
    exact bodyPost_ret (v := Got (0, 0, 2)) (by simp [results, Tryd.results85, go_sem, Got]) rfl ⟨by rw [HL.out], (Kept.refl _ _).alloc _⟩
  · have q1 : ¬ (l.length : Int) - (t : Int) < 8 := by omega
    obtain ⟨g, off, rfl, hcells⟩ := hv.addr (by omega)
    have hg : g < w.heap.size := World.block_lt_of_cell? w ⟨g, off + t, none⟩ (hcells t (by omega))
    obtain ⟨bs, hbs⟩ : ∃ bs, bs = l.drop t := ⟨_, rfl⟩
    have HL : Hid (getFixF l t = (hiV bs 8, 8, 0)) := by show _ = _; unfold getFixF; rw [if_neg hA, hiV_leV, hbs]
    have HC : Hid (∀ j, j < 8 → w.cell? ⟨g, off + (t + j), none⟩ = some (.int .u8 (bs.getD j 0)) ∧ 0 ≤ bs.getD j 0 ∧ bs.getD j 0 < 256) := by
      show ∀ j, _ → _
      intro j hj
      have h1 := hcells (t + j) (by omega)
      have h2 : l.getD (t + j) 0 = bs.getD j 0 := by rw [hbs, List.getD_eq_getElem?_getD, List.getD_eq_getElem?_getD, List.getElem?_drop]
      rw [h2] at h1
      exact ⟨h1, by rw [← h2]; exact hb _ (getD_mem (by omega))⟩
    have HTL : Hid (t + 8 ≤ l.length) := by show t + 8 ≤ l.length; omega
    have t0 : (0 : Int) ≤ (t : Int) := by omega
    have hst : hiV bs 0 = 0 := rfl
    clear hbs hcells hA hb
    go_enter Tryd.func85, Tryd.ntmps85
    go_wp2
    go_loopg [5, 6] 8 (fun g0 s5 s6 wr => ∃ m : Nat, m ≤ 8 ∧ m = g0 ∧ s6 = .int .i64 ((m : Int) - 1) ∧ s5 = .int .u64 (hiV bs (8 - m)) ∧ 0 ≤ hiV bs (8 - m) ∧ hiV bs (8 - m) < ((256 ^ (8 - m) : Nat) : Int) ∧ wr = w.alloc (.cells #[.int .u64 0, .int .i64 0, .int .i64 0] 135))
    case atStart => exact ⟨8, Nat.le_refl _, rfl, rfl, by rw [Nat.sub_self, hst], by rw [Nat.sub_self, hst]; omega, by rw [Nat.sub_self, hst]; decide, rfl⟩
    case round =>
      obtain ⟨m, hm, rfl, h6, rfl, hr0, hr1, rfl⟩ := hrel
      clear hst
      by_cases hd : 0 < m
      · obtain ⟨i, rfl⟩ : ∃ i, m = i + 1 := ⟨m - 1, by omega⟩
        have h7 : u6 = .int .i64 (i : Int) := by rw [h6]; congr 1; omega
        subst h7
        obtain ⟨hcl, y0, y1⟩ := HC.out i (by omega)
        have htl := HTL.out
        obtain ⟨k, hk⟩ : ∃ k, 8 - (i + 1) = k := ⟨_, rfl⟩
        have hk2 : 8 - i = k + 1 := by omega
        have hki : 7 - k = i := by omega
        have hnx : hiV bs (k + 1) = 256 * hiV bs k + bs.getD (7 - k) 0 := rfl
        rw [hki] at hnx
        rw [hk] at hr0 hr1 ⊢
        have hpk : 256 ^ k ≤ 256 ^ 7 := Nat.pow_le_pow_right (by decide) (by omega)
        have h87 : (256 : Nat) ^ 7 = 72057594037927936 := by decide
        have hps : 256 ^ (k + 1) = 256 ^ k * 256 := Nat.pow_succ ..
        obtain ⟨y, hy⟩ : ∃ y, y = bs.getD i 0 := ⟨_, rfl⟩
        obtain ⟨V, hV⟩ : ∃ V, V = hiV bs k := ⟨_, rfl⟩
        obtain ⟨V2, hV2⟩ : ∃ V2, V2 = hiV bs (k + 1) := ⟨_, rfl⟩
        rw [← hy] at hcl y0 y1 hnx
        rw [← hV] at hr0 hr1 hnx ⊢
        rw [← hV2] at hnx
        obtain ⟨V1, hV1⟩ : ∃ V1, V1 = 256 * V := ⟨_, rfl⟩
        have s1 : IntKind.u64.wrap V1 = V1 := wrap_u64_of _ (by omega) (by omega)
        have s0 : 256 * V = V1 := hV1.symm
        have s2 : V1 + y = V2 := by omega
        have s3 : IntKind.u64.wrap V2 = V2 := wrap_u64_of _ (by omega) (by omega)
        have hV2b : Hid (0 ≤ V2 ∧ V2 < ((256 ^ (k + 1) : Nat) : Int)) := by show _ ∧ _; rw [hps]; omega
        have s4 : IntKind.u64.wrap y = y := wrap_u64_of _ (by omega) (by omega)
        obtain ⟨N, hN⟩ : ∃ N, N = t + i := ⟨_, rfl⟩
        have n1 : (t : Int) + (i : Int) = (N : Int) := by omega
        have n2 : IntKind.i64.wrap (N : Int) = (N : Int) := IntWalk.i64_in _ ⟨by omega, by omega⟩
        have n3 : (0 : Int) ≤ (N : Int) := by omega
        have n4 : (N : Int) < (l.length : Int) := by omega
        have n5 : ((N : Int)).toNat = N := by omega
        have i0 : (0 : Int) ≤ (i : Int) := by omega
        have i1 : IntKind.i64.wrap ((i : Int) - 1) = (i : Int) - 1 := IntWalk.i64_in _ ⟨by omega, by omega⟩
        rw [← hN] at hcl
        have hgn : ¬ (w.heap.size = g) := by omega
        have hcl2 : ∀ o, (w.alloc o).cell? ⟨g, off + N, none⟩ = some (.int .u8 y) := fun o => ((Kept.refl (fun _ => False) w).alloc o).cell hcl (fun x => x)
        have HK2 := Lib.hid hk2
        have HV2 := Lib.hid hV2
        have HMM := Lib.hid hm
        clear hk hk2 hki hnx hV hV2 hV1 hy hN hr0 hr1 hps hpk h87 htl h6 hm
        go_wp2
        go_roundg i
        case measure => omega
        case rel => exact ⟨i, by have := HMM.out; omega, rfl, rfl, by rw [HK2.out, ← HV2.out], by rw [HK2.out, ← HV2.out]; exact hV2b.out.1, by rw [HK2.out, ← HV2.out]; exact hV2b.out.2, rfl⟩
      · obtain rfl : m = 0 := by omega
        have h7 : u6 = .int .i64 (-1) := h6
        subst h7
        obtain ⟨V, hV⟩ : ∃ V, V = hiV bs 8 := ⟨_, rfl⟩
        have hz : hiV bs (8 - 0) = V := by rw [hV]
        rw [hz]
        rw [← hV] at HL
        clear hV hz hr0 hr1 hm h6
        go_wp2
        exact bodyPost_ret (v := Got (V, 8, 0)) (by simp [results, Tryd.results85, go_sem, Got]) rfl ⟨by rw [HL.out], by first | exact (Kept.refl _ _).alloc _ | exact ((Kept.refl _ _).alloc _).setCell (fun h => by simp at h) _⟩
end Go.Proofs.YtficodklidaheaaDoor
