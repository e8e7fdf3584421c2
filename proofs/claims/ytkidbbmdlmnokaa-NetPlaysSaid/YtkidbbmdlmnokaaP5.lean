/- package pack's reader: what it is in memory; NewReader, Left, At, Err; the writer's Text. -/
import Derived.Test.YtkidbbmdlmnokaaP4
import Derived.Test.YtkidbbmdlmnokaaShelf
import Derived.Deep.QuietTactic
import Derived.BigQuiet
import Derived.Outline
namespace Go.Proofs.Ytkidbbmdlmnokaa
open Go.RowKit
attribute [local go_sem ↓] Go.wp_at_zero Go.wp_at_succ

/-- A text's bytes as numbers. -/
def strB (s : ByteArray) : List Int := s.data.toList.map fun b => (b.toNat : Int)
theorem strB_cells (s : ByteArray) : u8s (strB s) = byteCells s := by simp [u8s, strB, byteCells]
theorem strB_length (s : ByteArray) : (strB s).length = s.size := by
  unfold strB; rw [List.length_map, Array.length_toList]; rfl

set_option maxHeartbeats 400000 in
theorem text_any (B p : Nat) (v : Value) (l : List Int) (s : ByteArray) (w : World) (HW : WrAt 110 5 w B p v l) (hB : B ≤ w.heap.size) (hs : s.size ≤ 1000000000)
    (hl : l.length ≤ 1000000000) :
    Calls Try.prog 54 #[.pointer (some ⟨p, 0, none⟩), .string s] w fun e w' => e = .returned (.tuple #[]) ∧ WrTo 110 5 w w' B p v (l ++ numB s.size ++ strB s) := by
  obtain ⟨i0, hi, hz0, hz1, hz2⟩ := info_parts Try.info5
  have ho := oth_le s.size
  have e0 : IntKind.u64.wrap (s.size : Int) = s.size := wrap_u64_of _ (by omega) (by omega)
  go_enter Try.func54, Try.ntmps54
  go_wp2_with fail
  refine (num_any B p v l s.size w HW hB (by omega) (by omega) hl).mono ?_
  rintro e w' ⟨rfl, ht⟩
  obtain ⟨v1, HW1, hsz1, back⟩ := ht.part
  have hB1 : B ≤ w'.heap.size := Nat.le_trans hB hsz1
  have hlen1 : (l ++ numB s.size).length ≤ 1000000010 := by simp [numB_length]; omega
  generalize hl1 : l ++ numB s.size = l1 at *
  have HL1 := Lib.hid hl1
  clear hl1 ht
  have hc1 := HW1.cell
  have hf1 := HW1.free
  have hp1 := HW1.lt
  have hs2 := Lib.hid (strB_cells s)
  have hs3 := Lib.hid (strB_length s)
  obtain ⟨ao1, cp1, rfl⟩ := ownsRow_slice HW1.owns
  clear HW
  go_wp2_with (at_builtin; refine wpList_append_src _ rfl (.tmp 13) (.tmp 14) 27 9 rfl B 5 i0 (.int .u8 0) 1 1 Try.underlying27 hi hz0 hz1 hz2 rfl (.slice ao1 l1.length cp1) l1.length (u8s l1) rfl HW1.owns (.string s) s.size (byteCells s) rfl (Src.ofString w' Try.underlying9 s) ?c1 ?c2 hB1 ?_)
  case c1 => unfold maxLen; omega
  case c2 => omega
  · intro v' w1 hown hg _ hat
    have hbox := HW1.behind (Kept.refl _ _) hg
    have hc2 := cell_of_one hbox
    have hf2 := free_of_one hbox
    obtain ⟨a', c', rfl⟩ := ownsRow_slice hown
    rw [← hs2.out] at hown
    have fin := Lib.hid (back.out _ _ (HW1.pushed (l2 := strB s) (Kept.refl _ _) hown hg hs3.out.symm hat))
    clear hown hg hat hc1 hf1
    go_wp2
    go_end0
    exact ⟨rfl, by rw [HL1.out]; exact fin.out⟩

/-- The reader behind the pointer to block p has the bytes l, of which at are taken, and the error e. -/
structure RdAt (T E : TypeId) (w : World) (B p : Nat) (v : Value) (l : List Int) (at' : Nat) (e : Int) : Prop where
  base : B ≤ p
  box : w.heap[p]? = some (.cells #[v, .int .i64 at', .int .i64 e] T (0, 0))
  owns : w.ownsRow B E 1 v l.length (u8s l)
  apart : v.ownBlock ≠ some p
  taken : at' ≤ l.length
  byte : ∀ x ∈ l, 0 ≤ x ∧ x < 256

theorem RdAt.lt {T E : TypeId} {w : World} {B p : Nat} {v : Value} {l : List Int} {t : Nat} {e : Int} (h : RdAt T E w B p v l t e) : p < w.heap.size := (Array.getElem?_eq_some_iff.1 h.box).1
theorem RdAt.kept {T E : TypeId} {w w' : World} {B p : Nat} {v : Value} {l : List Int} {t : Nat} {e : Int} {S : Nat → Prop} (h : RdAt T E w B p v l t e) (hk : Kept S w w') (hp : ¬ S p) (hv : ∀ k, v.ownBlock = some k → ¬ S k) : RdAt T E w' B p v l t e :=
  ⟨h.base, hk.same h.box hp, hk.owns h.owns hv, h.apart, h.taken, h.byte⟩
theorem RdAt.drewN {T E : TypeId} {w : World} {B p : Nat} {v : Value} {l : List Int} {t : Nat} {e : Int} (h : RdAt T E w B p v l t e) (q : Nat) : RdAt T E (w.drewN q) B p v l t e :=
  h.kept ((Kept.refl (fun _ => False) w).drewN q) (fun x => x) (fun _ _ x => x)
theorem RdAt.c0 {T E : TypeId} {w : World} {B p : Nat} {v : Value} {l : List Int} {t : Nat} {e : Int} (h : RdAt T E w B p v l t e) : w.cell? ⟨p, 0, none⟩ = some v := by rw [cell_of_row w p 0 _ _ _ h.box]; rfl
theorem RdAt.c1 {T E : TypeId} {w : World} {B p : Nat} {v : Value} {l : List Int} {t : Nat} {e : Int} (h : RdAt T E w B p v l t e) : w.cell? ⟨p, 1, none⟩ = some (.int .i64 t) := by rw [cell_of_row w p 1 _ _ _ h.box]; rfl
theorem RdAt.c2 {T E : TypeId} {w : World} {B p : Nat} {v : Value} {l : List Int} {t : Nat} {e : Int} (h : RdAt T E w B p v l t e) : w.cell? ⟨p, 2, none⟩ = some (.int .i64 e) := by rw [cell_of_row w p 2 _ _ _ h.box]; rfl

def Drawn (w w' : World) (P : Prop) : Prop := P ∧ ∃ q, w' = w.drewN q

set_option maxHeartbeats 400000 in
theorem left_any (B p : Nat) (v : Value) (l : List Int) (t : Nat) (e : Int) (w : World) (HR : RdAt 113 5 w B p v l t e) (hl : l.length ≤ 100000000000) :
    Calls Try.prog 71 #[.pointer (some ⟨p, 0, none⟩)] w fun e w' => Drawn w w' (e = .returned (.int .i64 ((l.length : Int) - t))) := by
  have hc := HR.c0
  have hc1 := HR.c1
  have ht := HR.taken
  have e1 : IntKind.i64.wrap ((l.length : Int) - (t : Int)) = (l.length : Int) - (t : Int) := IntWalk.i64_in _ ⟨by omega, by omega⟩
  obtain ⟨ao, cp, rfl⟩ := ownsRow_slice HR.owns
  go_enter Try.func71, Try.ntmps71
  go_wp2
  go_quiet (fail)
  go_wp2
  go_ret
  exact ⟨rfl, _, rfl⟩

set_option maxHeartbeats 400000 in
theorem at_any (B p : Nat) (v : Value) (l : List Int) (t : Nat) (e : Int) (w : World) (HR : RdAt 113 5 w B p v l t e) :
    Calls Try.prog 70 #[.pointer (some ⟨p, 0, none⟩)] w fun e w' => e = .returned (.int .i64 t) ∧ w = w' := by
  have hc1 := HR.c1
  go_enter Try.func70, Try.ntmps70
  go_wp2
  go_ret
  exact ⟨rfl, rfl⟩

set_option maxHeartbeats 400000 in
theorem err_any (B p : Nat) (v : Value) (l : List Int) (t : Nat) (e : Int) (w : World) (HR : RdAt 113 5 w B p v l t e) :
    Calls Try.prog 69 #[.pointer (some ⟨p, 0, none⟩)] w fun e' w' => e' = .returned (.int .i64 e) ∧ w = w' := by
  have hc1 := HR.c2
  go_enter Try.func69, Try.ntmps69
  go_wp2
  go_ret
  exact ⟨rfl, rfl⟩

/-- What NewReader leaves: a reader of its own copy. -/
def ReaderMade (T E : TypeId) (w : World) (l : List Int) (e : Ending) (w' : World) : Prop :=
  ∃ p v, e = .returned (.pointer (some ⟨p, 0, none⟩)) ∧ RdAt T E w' w.heap.size p v l 0 0 ∧ Kept (fun _ => False) w w'

set_option maxHeartbeats 400000 in
theorem newReader_any (v : Value) (ao : Option Addr) (c : Nat) (l : List Int) (w : World) (hv : SliceAt w v ao l.length c (u8s l)) (hl : l.length ≤ 100000000000) (hb : ∀ x ∈ l, 0 ≤ x ∧ x < 256) :
    Calls Try.prog 59 #[v] w (ReaderMade 113 5 w l) := by
  obtain rfl := hv.val
  go_enter Try.func59, Try.ntmps59
  go_wp2_with fail
  refine (clone_any _ ao c l w hv hl).mono ?_
  rintro e w' ⟨v', rfl, hown, hk⟩
  have hsz := hk.size
  have fin : ReaderMade 113 5 w l (.returned (.pointer (some ⟨w'.heap.size, 0, none⟩))) (w'.alloc (.cells #[v', .int .i64 0, .int .i64 0] 113)) := by
    refine ⟨w'.heap.size, v', rfl, ⟨hsz, heap_alloc_new w' _, hown.alloc _, ?_, Nat.zero_le _, hb⟩, hk.alloc _⟩
    intro h
    have := (ownsRow_lt hown h).1
    omega
  obtain ⟨a', c', rfl⟩ := ownsRow_slice hown
  clear hown hk
  go_wp2
  go_ret
  exact fin
end Go.Proofs.Ytkidbbmdlmnokaa
