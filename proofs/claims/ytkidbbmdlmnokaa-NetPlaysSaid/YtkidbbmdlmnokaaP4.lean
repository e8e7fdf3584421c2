/- bytes.Clone; package pack's writer: NewWriter, Int, Fix, Text, Len, Bytes. -/
import Derived.Test.YtkidbbmdlmnokaaP3
import Derived.Outline
namespace Go.Proofs.Ytkidbbmdlmnokaa
open Go.RowKit
attribute [local go_sem ↓] Go.wp_at_zero Go.wp_at_succ

theorem u8s_one (l : List Int) : ∀ u ∈ u8s l, u.oneCell' = true := by
  intro u hu; obtain ⟨x, _, rfl⟩ := List.mem_map.1 hu; rfl

/-- A new slice of the bytes l. -/
def Fresh (E : TypeId) (w w' : World) (v : Value) (l : List Int) : Prop :=
  w'.ownsRow w.heap.size E 1 v l.length (u8s l) ∧ Kept (fun _ => False) w w'

def Cloned (E : TypeId) (w : World) (l : List Int) (e : Ending) (w' : World) : Prop := ∃ v, e = .returned v ∧ Fresh E w w' v l

/-- The value v is a slice whose elements, of one cell each, read as xs. -/
structure SliceAt (w : World) (v : Value) (ao : Option Addr) (n c : Nat) (xs : List Value) : Prop where
  val : v = .slice ao n c
  len : xs.length = n
  none : ao = none → n = 0
  cells : ∀ a, ao = some a → ∀ j u, xs[j]? = some u → w.cell? (a.add j) = some u

theorem SliceAt.src {P : Program} {w : World} {v : Value} {ao : Option Addr} {n c : Nat} {xs : List Value} (h : SliceAt w v ao n c xs) {t e : TypeId} (hk : P.underlying t = some (.slice e)) (h1 : ∀ u ∈ xs, u.oneCell' = true) : Src P 1 t v n xs w := by
  obtain ⟨rfl, hl, hn, hc⟩ := h
  cases ao with
  | none =>
    obtain rfl := hn rfl
    have : xs = [] := List.eq_nil_of_length_eq_zero hl
    subst this
    exact Src.ofNil _ hk _
  | some a => exact Src.ofSlice _ hk _ n c xs (by omega) (hc a rfl) h1

theorem SliceAt.to {w w' : World} {v : Value} {ao : Option Addr} {n c : Nat} {xs : List Value} (h : SliceAt w v ao n c xs) (hk : ∀ p u, w.cell? p = some u → (∀ a, ao = some a → p.block = a.block) → w'.cell? p = some u) : SliceAt w' v ao n c xs := by
  refine ⟨h.val, h.len, h.none, fun a ha j u hu => hk _ _ (h.cells a ha j u hu) ?_⟩
  intro a' ha'
  rw [ha] at ha'; cases ha'
  unfold Addr.add; split <;> rfl
theorem SliceAt.alloc {w : World} {v : Value} {ao : Option Addr} {n c : Nat} {xs : List Value} (h : SliceAt w v ao n c xs) (o : Obj) : SliceAt (w.alloc o) v ao n c xs :=
  h.to fun _ _ hp _ => ((Kept.refl (fun _ => False) w).alloc o).cell hp fun x => x
theorem SliceAt.kept {S : Nat → Prop} {w w' : World} {v : Value} {ao : Option Addr} {n c : Nat} {xs : List Value} (h : SliceAt w v ao n c xs) (hk : Kept S w w') (hn : ∀ a, ao = some a → ¬ S a.block) : SliceAt w' v ao n c xs := by
  refine ⟨h.val, h.len, h.none, fun a ha j u hu => ?_⟩
  refine hk.cell (h.cells a ha j u hu) ?_
  have : (a.add j).block = a.block := by unfold Addr.add; split <;> rfl
  rw [this]; exact hn a ha
theorem SliceAt.ofOwn {w : World} {base : Nat} {e : TypeId} {v : Value} {n : Nat} {xs : List Value} (ho : w.ownsRow base e 1 v n xs) : ∃ ao c, SliceAt w v ao n c xs ∧ v.ownBlock = ao.map (·.block) := by
  obtain ⟨a, cap, rfl⟩ := ownsRow_slice ho
  refine ⟨a, cap, ⟨rfl, by simpa using ho.1, ?_, ?_⟩, by cases a <;> rfl⟩
  · rintro rfl
    rcases ho.2 with ⟨_, rfl⟩ | ⟨g, cap, cur, e, _⟩
    · rfl
    · cases e
  · rintro a rfl j u hu
    rcases ho.2 with ⟨e, _⟩ | ⟨g, cap', cur, e, _⟩
    · cases e
    · injection e with e1 e2 e3
      injection e1 with e1
      subst e1
      exact ho.cells rfl j u hu

set_option maxHeartbeats 400000 in
theorem clone_any (v : Value) (ao : Option Addr) (c : Nat) (l : List Int) (w : World) (hv : SliceAt w v ao l.length c (u8s l)) (hl : l.length ≤ 100000000000) :
    Calls Try.prog 89 #[v] w (Cloned 5 w l) := by
  obtain ⟨i0, hi, hz0, hz1, hz2⟩ := info_parts Try.info5
  have q29 := fun (w : World) (a : Option Addr) (n c n' c' : Nat) => Lib.run_eql_slice_nil (P := Try.prog) w 27 5 a n c n' c' Try.underlying27
  obtain rfl := hv.val
  cases ao with
  | none =>
    have hn : l = [] := List.eq_nil_of_length_eq_zero (hv.none rfl)
    subst hn
    go_enter Try.func89, Try.ntmps89
    go_wp2
    go_ret
    exact ⟨_, rfl, World.ownsRow_nil _ _ _ _, Kept.refl _ _⟩
  | some a =>
    have hs := (hv.alloc (.cells #[] 5)).src Try.underlying27 (u8s_one l)
    have hown0 : (w.alloc (.cells #[] 5)).ownsRow w.heap.size 5 1 (.slice (some ⟨w.heap.size, 0, none⟩) 0 0) 0 [] :=
      ⟨rfl, .inr ⟨w.heap.size, 0, #[], rfl, Nat.le_refl _, heap_alloc_new w _, Nat.le_refl _, by unfold maxLen; omega, rfl, rfl⟩⟩
    go_enter Try.func89, Try.ntmps89
    go_wp2_with (at_builtin; refine wpList_append_src _ rfl (.tmp 5) (.tmp 6) 27 27 rfl w.heap.size 5 i0 (.int .u8 0) 1 1 Try.underlying27 hi hz0 hz1 hz2 rfl (.slice (some ⟨w.heap.size, 0, none⟩) 0 0) 0 [] rfl hown0 (.slice (some a) l.length c) l.length (u8s l) rfl hs ?c1 ?c2 ?c3 ?_)
    case c1 => unfold maxLen; omega
    case c2 => omega
    case c3 => first | omega | (simp; try omega)
    · intro v' w1 hown hg _ hat
      have hk : Kept (fun _ => False) w w1 := ((Kept.refl _ w).alloc _).grown hg (fun k hk hlt => by simp [Value.ownBlock] at hk; omega)
      have hf : Fresh 5 w w1 v' l := ⟨by simpa using hown, hk⟩
      clear hown hg hat hs hown0
      go_wp2
      go_ret
      exact ⟨v', rfl, hf⟩

set_option maxHeartbeats 400000 in
theorem newWriter_any (w : World) :
    Calls Try.prog 47 #[] w fun e w' => e = .returned (.pointer (some ⟨w.heap.size, 0, none⟩)) ∧ w' = w.alloc (.cells #[.slice none 0 0] 110) := by
  go_enter Try.func47, Try.ntmps47
  go_wp2
  go_ret
  exact ⟨rfl, rfl⟩

theorem newWriter_at (B : Nat) (w : World) (hB : B ≤ w.heap.size) : WrAt 110 5 (w.alloc (.cells #[.slice none 0 0] 110)) B w.heap.size (.slice none 0 0) [] :=
  ⟨hB, heap_alloc_new w _, World.ownsRow_nil _ _ _ _, by simp [Value.ownBlock]⟩

set_option maxHeartbeats 400000 in
theorem int_any (B p : Nat) (v : Value) (l : List Int) (x : Int) (w : World) (HW : WrAt 110 5 w B p v l) (hB : B ≤ w.heap.size) (h0 : -9223372036854775808 ≤ x) (h1 : x ≤ 9223372036854775807)
    (hl : l.length ≤ 1000000000) :
    Calls Try.prog 50 #[.pointer (some ⟨p, 0, none⟩), .int .i64 x] w fun e w' => e = .returned (.tuple #[]) ∧ WrTo 110 5 w w' B p v (l ++ numB (zigI x)) := by
  have hz := zigI_range x h0 h1
  go_enter Try.func50, Try.ntmps50
  go_wp2_with (go_at_call 88; refine (zig_any _ h0 h1 _).mono ?_; rintro e w' ⟨rfl, rfl⟩)
  refine (num_any B p v l (zigI x) w HW hB hz.1 hz.2 hl).mono ?_
  rintro e w' ⟨rfl, ht⟩
  go_wp2
  go_end0
  exact ⟨rfl, ht⟩

set_option maxHeartbeats 400000 in
theorem wlen_any (B p : Nat) (v : Value) (l : List Int) (w : World) (HW : WrAt 110 5 w B p v l) :
    Calls Try.prog 57 #[.pointer (some ⟨p, 0, none⟩)] w fun e w' => e = .returned (.int .i64 l.length) ∧ w = w' := by
  have hc := HW.cell
  obtain ⟨ao, cp, rfl⟩ := ownsRow_slice HW.owns
  go_enter Try.func57, Try.ntmps57
  go_wp2
  go_ret
  exact ⟨rfl, rfl⟩

set_option maxHeartbeats 400000 in
theorem wbytes_any (B p : Nat) (v : Value) (l : List Int) (w : World) (HW : WrAt 110 5 w B p v l) (hl : l.length ≤ 100000000000) :
    Calls Try.prog 58 #[.pointer (some ⟨p, 0, none⟩)] w (Cloned 5 w l) := by
  have hc := HW.cell
  obtain ⟨ao, cp, hv, _⟩ := SliceAt.ofOwn HW.owns
  obtain rfl := hv.val
  go_enter Try.func58, Try.ntmps58
  go_wp2_with fail
  refine (clone_any _ ao cp l w hv hl).mono ?_
  rintro e w' ⟨v', rfl, hf⟩
  go_wp2
  go_ret
  exact ⟨v', rfl, hf⟩
end Go.Proofs.Ytkidbbmdlmnokaa
