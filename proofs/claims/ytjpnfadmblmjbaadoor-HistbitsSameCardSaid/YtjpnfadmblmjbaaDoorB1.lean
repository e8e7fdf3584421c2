/- package bitio: what a writer and a reader are in memory; the small calls. -/
import Derived.Test.YtjpnfadmblmjbaaDoorRows
import Derived.Test.YtjpnfadmblmjbaaDoorL0
import Derived.Test.YtjpnfadmblmjbaaDoorG1
import Derived.Test.YtjpnfadmblmjbaaDoorB0
import Derived.Lib.Hide
import Derived.Deep.RegionHeld3
import Derived.Deep.DrawnRows
import Derived.Outline
import Derived.Deep.QuietTactic
import Derived.BigQuiet
namespace Go.Proofs.YtjpnfadmblmjbaaDoor
open Go.RowKit
attribute [local go_sem ↓] Go.wp_at_zero Go.wp_at_succ

theorem Tryd.infoU8 : (Tryd.prog.info? 5).map (fun i => (i.zero, i.size, i.bytes)) = some (some (.int .u8 0), 1, 1) := by kernel_rfl

/-- Bytes as values. -/
def bys (l : List Nat) : List Value := l.map fun (n : Nat) => Value.int .u8 (n : Int)
@[simp] theorem bys_length (l : List Nat) : (bys l).length = l.length := by simp [bys]
theorem bys_append (a b : List Nat) : bys (a ++ b) = bys a ++ bys b := by simp [bys]
theorem bys_one (l : List Nat) : ∀ u ∈ bys l, u.oneCell' = true := by
  intro u hu; obtain ⟨x, _, rfl⟩ := List.mem_map.1 hu; rfl
theorem bys_get {l : List Nat} {j : Nat} (h : j < l.length) : (bys l)[j]? = some (.int .u8 ((l.getD j 0 : Nat) : Int)) := by
  simp [bys, List.getD_eq_getElem?_getD, List.getElem?_eq_getElem h]

/-- A new slice of the values xs. -/
def FreshV (E : TypeId) (w : World) (xs : List Value) (e : Ending) (w' : World) : Prop :=
  ∃ v, e = .returned v ∧ w'.ownsRow w.heap.size E 1 v xs.length xs ∧ Kept (fun _ => False) w w'

set_option maxHeartbeats 400000 in
theorem bclone_any (v : Value) (xs : List Value) (w : World) (hv : SlAt w v xs) (h1 : ∀ u ∈ xs, u.oneCell' = true) (hl : xs.length ≤ 100000000000) :
    Calls Tryd.prog 53 #[v] w (FreshV 5 w xs) := by
  obtain ⟨i0, hi, hz0, hz1, hz2⟩ := info_parts Tryd.infoU8
  have q29 := fun (w : World) (a : Option Addr) (n c n' c' : Nat) => Lib.run_eql_slice_nil (P := Tryd.prog) w 33 5 a n c n' c' Tryd.underlying33
  have hv0 := hv
  obtain ⟨ao, c, rfl, hn, hcl⟩ := hv.val
  cases ao with
  | none =>
    obtain rfl := hn rfl
    clear hcl hn hv hv0
    go_enter Tryd.func53, Tryd.ntmps53
    go_wp2
    go_ret
    exact ⟨_, rfl, World.ownsRow_nil _ _ _ _, Kept.refl _ _⟩
  | some a =>
    have hs := (hv.kept (((Kept.refl (fun _ => False) w).alloc (.cells #[] 5))) (fun _ _ h => h)).src Tryd.underlying33 h1
    have hown0 : (w.alloc (.cells #[] 5)).ownsRow w.heap.size 5 1 (.slice (some ⟨w.heap.size, 0, none⟩) 0 0) 0 [] :=
      ⟨rfl, .inr ⟨w.heap.size, 0, #[], rfl, Nat.le_refl _, heap_alloc_new w _, Nat.le_refl _, by unfold maxLen; omega, rfl, rfl⟩⟩
    clear hcl hn hv hv0
    go_enter Tryd.func53, Tryd.ntmps53
    go_wp2_with (at_builtin; refine wpList_append_src _ rfl (.tmp 5) (.tmp 6) 33 33 rfl w.heap.size 5 i0 (.int .u8 0) 1 1 Tryd.underlying33 hi hz0 hz1 hz2 rfl (.slice (some ⟨w.heap.size, 0, none⟩) 0 0) 0 [] rfl hown0 (.slice (some a) xs.length c) xs.length xs rfl hs ?c1 ?c2 ?c3 ?_)
    case c1 => unfold maxLen; omega
    case c2 => omega
    case c3 => first | omega | (simp; try omega)
    · intro v' w1 hown hg _ hat
      have hk : Kept (fun _ => False) w w1 := ((Kept.refl _ w).alloc _).grown hg (fun k hk hlt => by simp [Value.ownBlock] at hk; omega)
      have hf : FreshV 5 w xs (.returned v') w1 := ⟨v', rfl, by simpa using hown, hk⟩
      clear hown hg hat hs hown0
      go_wp2
      go_ret
      exact hf

/-- The writer behind the pointer to block p holds the bits bs, in the slice v. -/
structure BwAt (w : World) (B p : Nat) (v : Value) (bs : List Bool) : Prop where
  base : B ≤ p
  box : w.heap[p]? = some (.cells #[v, .int .i64 bs.length] 80 (0, 0))
  owns : w.ownsRow B 5 1 v (packB bs).length (bys (packB bs))
  apart : v.ownBlock ≠ some p

/-- What a call on it leaves. -/
def BwTo (w w' : World) (B p : Nat) (v : Value) (bs : List Bool) : Prop :=
  ∃ v', BwAt w' B p v' bs ∧ (v'.ownBlock = v.ownBlock ∨ ∃ k, v'.ownBlock = some k ∧ w.heap.size ≤ k) ∧ Kept (fun k => k = p ∨ v.ownBlock = some k) w w'

section
variable {w w' w1 : World} {B p : Nat} {v : Value} {bs bs1 : List Bool} {S : Nat → Prop}
theorem BwAt.to (h : BwAt w B p v bs) : BwTo w w B p v bs := ⟨v, h, .inl rfl, Kept.refl _ _⟩
theorem BwAt.lt (h : BwAt w B p v bs) : p < w.heap.size := (Array.getElem?_eq_some_iff.1 h.box).1
theorem BwAt.kept (h : BwAt w B p v bs) (hk : Kept S w w') (hp : ¬ S p) (hv : ∀ k, v.ownBlock = some k → ¬ S k) : BwAt w' B p v bs :=
  ⟨h.base, hk.same h.box hp, hk.owns h.owns hv, h.apart⟩
theorem BwAt.keptF (h : BwAt w B p v bs) (hk : Kept (fun _ => False) w w') : BwAt w' B p v bs := h.kept hk (fun x => x) (fun _ _ x => x)
theorem BwAt.c0 (h : BwAt w B p v bs) : w.cell? ⟨p, 0, none⟩ = some v := by rw [cell_of_row w p 0 _ _ _ h.box]; rfl
theorem BwAt.c1 (h : BwAt w B p v bs) : w.cell? ⟨p, 1, none⟩ = some (.int .i64 bs.length) := by rw [cell_of_row w p 1 _ _ _ h.box]; rfl
theorem BwAt.free (h : BwAt w B p v bs) (j : Nat) : w.frozen? ⟨p, j, none⟩ = false := by simp [World.frozen?, h.box]
theorem BwTo.part (h : BwTo w w1 B p v bs1) :
    ∃ v1, BwAt w1 B p v1 bs1 ∧ w.heap.size ≤ w1.heap.size ∧ Hid (∀ w2 l2, BwTo w1 w2 B p v1 l2 → BwTo w w2 B p v l2) := by
  obtain ⟨v1, h1, a1, k1⟩ := h
  refine ⟨v1, h1, k1.size, fun w2 l2 k => ?_⟩
  obtain ⟨v2, h2, a2, k2⟩ := k
  refine ⟨v2, h2, ?_, k1.step k2 ?_⟩
  · rcases a2 with a2 | ⟨g, e, hg⟩
    · rw [a2]
      rcases a1 with a1 | a1
      · exact .inl a1
      · exact .inr a1
    · exact .inr ⟨g, e, Nat.le_trans k1.size hg⟩
  · intro k hk hS
    rcases hS with rfl | hS
    · exact .inl rfl
    · rcases a1 with a1 | ⟨g, e, hg⟩
      · exact .inr (a1 ▸ hS)
      · rw [e] at hS; cases hS; omega
end

/-- The reader behind the pointer to block p has the bits bs, of which t are taken; its bytes lie in the slice v. -/
structure BrAt (w : World) (B p : Nat) (v : Value) (bs : List Bool) (t : Nat) : Prop where
  base : B ≤ p
  box : w.heap[p]? = some (.cells #[v, .int .i64 bs.length, .int .i64 t] 88 (0, 0))
  owns : w.ownsRow B 5 1 v (packB bs).length (bys (packB bs))
  apart : v.ownBlock ≠ some p
  taken : t ≤ bs.length

section
variable {w w' : World} {B p : Nat} {v : Value} {bs : List Bool} {t : Nat} {S : Nat → Prop}
theorem BrAt.lt (h : BrAt w B p v bs t) : p < w.heap.size := (Array.getElem?_eq_some_iff.1 h.box).1
theorem BrAt.kept (h : BrAt w B p v bs t) (hk : Kept S w w') (hp : ¬ S p) (hv : ∀ k, v.ownBlock = some k → ¬ S k) : BrAt w' B p v bs t :=
  ⟨h.base, hk.same h.box hp, hk.owns h.owns hv, h.apart, h.taken⟩
theorem BrAt.keptF (h : BrAt w B p v bs t) (hk : Kept (fun _ => False) w w') : BrAt w' B p v bs t := h.kept hk (fun x => x) (fun _ _ x => x)
theorem BrAt.drewN (h : BrAt w B p v bs t) (q : Nat) : BrAt (w.drewN q) B p v bs t := h.keptF ((Kept.refl _ w).drewN q)
theorem BrAt.c0 (h : BrAt w B p v bs t) : w.cell? ⟨p, 0, none⟩ = some v := by rw [cell_of_row w p 0 _ _ _ h.box]; rfl
theorem BrAt.c1 (h : BrAt w B p v bs t) : w.cell? ⟨p, 1, none⟩ = some (.int .i64 bs.length) := by rw [cell_of_row w p 1 _ _ _ h.box]; rfl
theorem BrAt.c2 (h : BrAt w B p v bs t) : w.cell? ⟨p, 2, none⟩ = some (.int .i64 t) := by rw [cell_of_row w p 2 _ _ _ h.box]; rfl
theorem BrAt.free (h : BrAt w B p v bs t) (j : Nat) : w.frozen? ⟨p, j, none⟩ = false := by simp [World.frozen?, h.box]
end

set_option maxHeartbeats 400000 in
theorem bnew_any (w : World) :
    Calls Tryd.prog 11 #[] w fun e w' => e = .returned (.pointer (some ⟨w.heap.size, 0, none⟩)) ∧ w' = w.alloc (.cells #[.slice none 0 0, .int .i64 0] 80) := by
  go_enter Tryd.func11, Tryd.ntmps11
  go_wp2
  go_ret
  exact ⟨rfl, rfl⟩
theorem bnew_at (B : Nat) (w : World) (hB : B ≤ w.heap.size) : BwAt (w.alloc (.cells #[.slice none 0 0, .int .i64 0] 80)) B w.heap.size (.slice none 0 0) [] :=
  ⟨hB, heap_alloc_new w _, by exact World.ownsRow_nil _ _ _ _, by simp [Value.ownBlock]⟩

set_option maxHeartbeats 400000 in
theorem bwlen_any (B p : Nat) (v : Value) (bs : List Bool) (w : World) (HW : BwAt w B p v bs) :
    Calls Tryd.prog 16 #[.pointer (some ⟨p, 0, none⟩)] w fun e w' => e = .returned (.int .i64 bs.length) ∧ w = w' := by
  have hc := HW.c1
  go_enter Tryd.func16, Tryd.ntmps16
  go_wp2
  go_ret
  exact ⟨rfl, rfl⟩

set_option maxHeartbeats 400000 in
theorem bwbytes_any (B p : Nat) (v : Value) (bs : List Bool) (w : World) (HW : BwAt w B p v bs) (hl : bs.length ≤ 100000000000) :
    Calls Tryd.prog 17 #[.pointer (some ⟨p, 0, none⟩)] w (FreshV 5 w (bys (packB bs))) := by
  have hc := HW.c0
  have hv := SlAt.ofOwn HW.owns
  obtain ⟨ao, cp, rfl⟩ := ownsRow_slice HW.owns
  go_enter Tryd.func17, Tryd.ntmps17
  go_wp2_with fail
  refine (bclone_any _ _ w hv (bys_one _) (by rw [bys_length, packB_length]; omega)).mono ?_
  rintro e w' ⟨v', rfl, hf⟩
  go_wp2
  go_ret
  exact ⟨v', rfl, hf⟩

set_option maxHeartbeats 400000 in
theorem bsize_any (n : Nat) (hn : n ≤ 9223372036854775807) (w : World) :
    Calls Tryd.prog 54 #[.int .i64 n] w fun e w' => e = .returned (.int .i64 (((n + 7) / 8 : Nat) : Int)) ∧ w = w' := by
  have hs : n % 8 = 0 ∨ 0 < n % 8 := by omega
  have h0 : (0 : Int) ≤ (n : Int) := by omega
  rcases hs with h | h
  · have hd : decide (0 < (n : Int) % 8) = false := by simp; omega
    have e0 : (((n + 7) / 8 : Nat) : Int) = (n : Int) / 8 := by omega
    rw [e0]
    clear e0
    go_enter Tryd.func54, Tryd.ntmps54
    go_wp2
    go_ret
    exact ⟨rfl, rfl⟩
  · have hd : decide (0 < (n : Int) % 8) = true := by simp; omega
    have e0 : (((n + 7) / 8 : Nat) : Int) = (n : Int) / 8 + 1 := by omega
    have e1 : IntKind.i64.wrap ((n : Int) / 8 + 1) = (n : Int) / 8 + 1 := IntWalk.i64_in _ ⟨by omega, by omega⟩
    rw [e0]
    clear e0
    go_enter Tryd.func54, Tryd.ntmps54
    go_wp2
    go_ret
    exact ⟨rfl, rfl⟩

/-- The world is as it was, but for draws. -/
def Drew (w w' : World) (P : Prop) : Prop := P ∧ ∃ q, w' = w.drewN q

set_option maxHeartbeats 400000 in
theorem bleft_any (B p : Nat) (v : Value) (bs : List Bool) (t : Nat) (w : World) (HR : BrAt w B p v bs t) (hl : bs.length ≤ 100000000000) :
    Calls Tryd.prog 32 #[.pointer (some ⟨p, 0, none⟩)] w fun e w' => Drew w w' (e = .returned (.int .i64 (((bs.length - t : Nat) : Int)))) := by
  have hc1 := HR.c1
  have hc2 := HR.c2
  have ht := HR.taken
  have e1 : IntKind.i64.wrap ((bs.length : Int) - (t : Int)) = ((bs.length - t : Nat) : Int) := by rw [IntWalk.i64_in _ ⟨by omega, by omega⟩]; omega
  go_enter Tryd.func32, Tryd.ntmps32
  go_wp2
  go_quiet (fail)
  go_wp2
  go_ret
  exact ⟨rfl, _, rfl⟩

set_option maxHeartbeats 400000 in
theorem bat_any (B p : Nat) (v : Value) (bs : List Bool) (t : Nat) (w : World) (HR : BrAt w B p v bs t) :
    Calls Tryd.prog 25 #[.pointer (some ⟨p, 0, none⟩)] w fun e w' => e = .returned (.int .i64 t) ∧ w = w' := by
  have hc1 := HR.c2
  go_enter Tryd.func25, Tryd.ntmps25
  go_wp2
  go_ret
  exact ⟨rfl, rfl⟩
end Go.Proofs.YtjpnfadmblmjbaaDoor
