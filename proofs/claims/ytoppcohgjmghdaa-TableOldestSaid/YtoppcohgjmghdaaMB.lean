/- Layer 14: a table in memory; New, Len, Room, Get, Del, Put. -/
import Derived.Test.YtoppcohgjmghdaaMA
import Derived.Test.YtoppcohgjmghdaaBX
import Derived.Deep.RegionWith
namespace Go.Proofs.Ytoppcohgjmghdaa
open Go.RowKit
attribute [local go_sem ↓] Go.wp_at_zero Go.wp_at_succ

/-- A table in memory: L its things as the map has them, M by when they were put down. -/
structure TK (base : Nat) (w : World) (tb mb : Nat) (L : List (ByteArray × Th)) (most : Int) (M : List (ByteArray × Th)) (p : Nat) : Prop where
  box : BoxAt w tb 48 #[.int .i64 most, .int .i64 (p : Int), .map (some mb)]
  map : MapIs w mb (mapM valT L)
  perm : L.Perm M
  ok : TOk M p
  base : base ≤ tb ∧ base ≤ mb
  mostR : I64 most
  few : M.length ≤ p ∧ p ≤ 1000000000
section
variable {base : Nat} {w w' : World} {tb mb : Nat} {L M : List (ByteArray × Th)} {most : Int} {p : Nat}
theorem TK.kept {S : Nat → Prop} (h : TK base w tb mb L most M p) (k : Kept S w w') (h1 : ¬ S tb) (h2 : ¬ S mb) : TK base w' tb mb L most M p :=
  ⟨h.box.kept k h1, h.map.kept k h2, h.perm, h.ok, h.base, h.mostR, h.few⟩
theorem TK.ne (h : TK base w tb mb L most M p) : tb ≠ mb := h.map.notCells h.box
theorem TK.c (h : TK base w tb mb L most M p) : w.cell? ⟨tb, 0, none⟩ = some (.int .i64 most) ∧ w.cell? ⟨tb, 1, none⟩ = some (.int .i64 (p : Int)) ∧ w.cell? ⟨tb, 2, none⟩ = some (.map (some mb)) := ⟨h.box.cell rfl, h.box.cell rfl, h.box.cell rfl⟩
theorem TK.pair (h : TK base w tb mb L most M p) : L.Pairwise fun a b => a.1 ≠ b.1 := (h.perm.symm.pairwise_iff (fun {_ _} x => Ne.symm x)).1 h.ok.pair
theorem TK.get (h : TK base w tb mb L most M p) (s : ByteArray) : getM L s = getM M s := get_of_perm h.pair h.perm s
theorem TK.len (h : TK base w tb mb L most M p) : (mapM valT L).length = M.length := by unfold mapM; rw [List.length_map]; exact h.perm.length_eq
end
theorem zero_thing (w : World) : (zeroValue 50).run Try.prog w = .ok (.agg #[.int .i64 0, .int .i64 0]) w := by kernel_rfl
/-- What stands under a key. -/
def atT (M : List (ByteArray × Th)) (s : ByteArray) : Th := (getM M s).getD (0, 0)
theorem TK.look {base : Nat} {w : World} {tb mb : Nat} {L M : List (ByteArray × Th)} {most : Int} {p : Nat} (h : TK base w tb mb L most M p) {s : ByteArray} (hs : s.size ≤ maxLen) :
    (Instr.lookup 46 (.map (some mb)) (.string s) true).run Try.prog w = .ok (.tuple #[.agg #[.int .i64 (atT M s).1, .int .i64 ((atT M s).2 : Int)], .bool (getM M s).isSome]) w := by
  have h1 := h.map.lookup Try.underlying9 Try.underlying46 (zero_thing w) hs true
  rw [getM_map, h.get] at h1
  unfold atT
  cases hx : getM M s with
  | none => rw [hx] at h1; exact h1
  | some f => rw [hx] at h1; exact h1

set_option maxHeartbeats 1000000 in
theorem tNew_any (most : Int) (hm : I64 most) (w : World) :
    Calls Try.prog 7 #[.int .i64 most] w fun e w' => ∃ tb mb, e = .returned (.pointer (some ⟨tb, 0, none⟩)) ∧ TK w.heap.size w' tb mb [] most [] 0 ∧ Kept (fun _ => False) w w' := by
  have hmm := @run_makeMap Try.prog
  have k : Kept (fun _ => False) w (w.alloc (.map #[] 0)) := (Kept.refl _ _).alloc _
  have k2 : Kept (fun _ => False) (w.alloc (.map #[] 0)) ((w.alloc (.map #[] 0)).alloc (.cells #[.int .i64 most, .int .i64 0, .map (some w.heap.size)] 48)) := (Kept.refl _ _).alloc _
  have HT := Lib.hid (show TK w.heap.size ((w.alloc (.map #[] 0)).alloc (.cells #[.int .i64 most, .int .i64 0, .map (some w.heap.size)] 48)) (w.heap.size + 1) w.heap.size [] most [] 0 from
    ⟨by have := BoxAt.new (w.alloc (.map #[] 0)) 48 #[.int .i64 most, .int .i64 0, .map (some w.heap.size)]; rw [show (w.alloc (.map #[] 0)).heap.size = w.heap.size + 1 by simp] at this; exact this,
     (MapIs.made w).kept k2 (fun x => x), List.Perm.nil, TOk.none 0, ⟨by omega, Nat.le_refl _⟩, hm, ⟨Nat.le_refl _, by omega⟩⟩)
  have HK := Lib.hid (k.trans k2)
  clear k k2 hm
  go_enter Try.func7, Try.ntmps7
  go_wp2
  go_ret
  exact ⟨_, _, rfl, HT.out, HK.out⟩
set_option maxHeartbeats 1000000 in
theorem tLen_any (base tb mb : Nat) (L M : List (ByteArray × Th)) (most : Int) (p : Nat) (w : World) (h : TK base w tb mb L most M p) :
    Calls Try.prog 16 #[.pointer (some ⟨tb, 0, none⟩)] w fun e w' => e = .returned (.int .i64 (M.length : Int)) ∧ w = w' := by
  have c2 := h.c.2.2
  have hl := fun ty => h.map.runLen Try.underlying46 ty
  rw [h.len] at hl
  obtain ⟨n, hn⟩ : ∃ n, n = M.length := ⟨_, rfl⟩
  rw [← hn] at hl ⊢
  clear h hn
  go_enter Try.func16, Try.ntmps16
  go_wp2
  go_ret
  exact ⟨rfl, rfl⟩
set_option maxHeartbeats 2000000 in
theorem tRoom_any (base tb mb : Nat) (L M : List (ByteArray × Th)) (most : Int) (p : Nat) (w : World) (h : TK base w tb mb L most M p) :
    Calls Try.prog 20 #[.pointer (some ⟨tb, 0, none⟩)] w fun e w' => e = .returned (.int .i64 (max 0 (wrap64 (most - (M.length : Int))))) ∧ Kept (fun _ => False) w w' := by
  have hd := h.kept ((Kept.refl (fun _ => False) w).drew) (fun x => x) (fun x => x)
  have c0 := h.c.1
  have c2 := h.c.2.2
  have hl := fun ty => hd.map.runLen Try.underlying46 ty
  rw [h.len] at hl
  obtain ⟨n, hn⟩ : ∃ n, n = M.length := ⟨_, rfl⟩
  rw [← hn] at hl ⊢
  obtain ⟨d, hdd⟩ : ∃ d, d = wrap64 (most - (n : Int)) := ⟨_, rfl⟩
  have wd : IntKind.i64.wrap (most - (n : Int)) = d := by rw [IntKind.wrap_i64, hdd]; unfold wrap64; omega
  have wd2 : wrap64 (most - (n : Int)) = d := hdd.symm
  rw [← hdd]
  clear h hn hd hdd
  by_cases h0 : d ≤ 0
  · have q0 : decide (d ≤ 0) = true := decide_eq_true h0
    have HX := Lib.hid (show max 0 d = 0 by omega)
    have q1 : max (0 : Int) d = 0 := HX.out
    rw [HX.out]
    go_enter Try.func20, Try.ntmps20
    go_wp2
    go_region
    go_wp2
    go_ret
    exact ⟨rfl, (Kept.refl _ _).drew⟩
  · have q0 : decide (d ≤ 0) = false := decide_eq_false h0
    have HX := Lib.hid (show max 0 d = d by omega)
    have q1 : max (0 : Int) d = d := HX.out
    rw [HX.out]
    go_enter Try.func20, Try.ntmps20
    go_wp2
    go_region
    go_wp2
    go_ret
    exact ⟨rfl, (Kept.refl _ _).drew⟩
set_option maxHeartbeats 1000000 in
theorem tGet_any (base tb mb : Nat) (L M : List (ByteArray × Th)) (most : Int) (p : Nat) (s : ByteArray) (hs : s.size ≤ maxLen) (w : World) (h : TK base w tb mb L most M p) :
    Calls Try.prog 8 #[.pointer (some ⟨tb, 0, none⟩), .string s] w fun e w' => e = .returned (.tuple #[.int .i64 (atT M s).1, .bool (getM M s).isSome]) ∧ Kept (fun _ => False) w w' := by
  have c2 := h.c.2.2
  have hl := h.look hs
  obtain ⟨x, hx⟩ : ∃ x, x = atT M s := ⟨_, rfl⟩
  obtain ⟨b, hb⟩ : ∃ b, b = (getM M s).isSome := ⟨_, rfl⟩
  rw [← hx, ← hb] at hl ⊢
  have HK := Lib.hid ((Kept.refl (fun _ => False) w).alloc (.cells #[.int .i64 x.1, .int .i64 (x.2 : Int)] 50))
  clear h hx hb
  go_enter Try.func8, Try.ntmps8
  go_wp2
  go_ret2
  exact ⟨rfl, HK.out⟩
end Go.Proofs.Ytoppcohgjmghdaa
