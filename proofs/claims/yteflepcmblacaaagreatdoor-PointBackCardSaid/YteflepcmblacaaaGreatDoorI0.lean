/- Layer 12: points plainly; num.Finite, num.Less. -/
import Derived.Test.YteflepcmblacaaaGreatDoorZc
import Derived.Test.YteflepcmblacaaaGreatDoorZd
import Derived.Test.YteflepcmblacaaaGreatDoorNZ
import Derived.Laws.StructEq
namespace Go.Proofs.YteflepcmblacaaaGreatDoor
open Go.RowKit
attribute [local go_sem ↓] Go.wp_at_zero Go.wp_at_succ

/-- Is the one float below the other? -/
def lessI (a b : Int) : Bool := Ieee.double.order a.toNat b.toNat == some .lt
theorem fromBits_run (a : Int) (w : World) : (callFunc 78 #[.int .u64 a]).run Tryz.prog w = .ok (.value (.float .f64 a.toNat)) w := by kernel_rfl

set_option maxHeartbeats 400000 in
theorem float_any (a : Int) (w : World) :
    Calls Tryz.prog 55 #[.int .u64 a] w fun e w' => e = .returned (.float .f64 a.toNat) ∧ w = w' := by
  have hf := fromBits_run
  go_enter Tryz.func55, Tryz.ntmps55
  go_wp2
  go_ret
  exact ⟨rfl, rfl⟩

set_option maxHeartbeats 400000 in
theorem finite_any (a : Int) (h0 : 0 ≤ a) (h1 : a ≤ 18446744073709551615) (w : World) :
    Calls Tryz.prog 31 #[.int .u64 a] w fun e w' => e = .returned (.bool (finI a)) ∧ w = w' := by
  go_enter Tryz.func31, Tryz.ntmps31
  go_wp2
  go_ret
  exact ⟨ret_bool (finite_bits a h0 h1), rfl⟩

set_option maxHeartbeats 400000 in
theorem less_any (a b : Int) (w : World) :
    Calls Tryz.prog 32 #[.int .u64 a, .int .u64 b] w fun e w' => e = .returned (.bool (lessI a b)) ∧ w = w' := by
  go_enter Tryz.func32, Tryz.ntmps32
  go_wp2_with (go_at_call 55; refine (float_any _ _).mono ?_; rintro e w' ⟨rfl, rfl⟩)
  go_ret
  exact ⟨rfl, rfl⟩

/-- What a point tells. -/
structure Pnt where
  name : ByteArray
  L : List Pr
  kind : Int
  temp : Int
  mono : Bool
  start : Int
  time : Int
  whole : Int
  re : Int
  im : Int
  h : HistV
  flags : Int
/-- A point's cells: its attributes, its counts lie at av, pv, nv. -/
def pntC (x : Pnt) (av pv nv : Value) : Array Value := #[.string x.name, av, .int .i64 x.kind, .int .i64 x.temp, .bool x.mono, .int .i64 x.start, .int .i64 x.time, .int .i64 x.whole, .int .u64 x.re, .int .u64 x.im,
  .int .i64 x.h.sc, .int .u64 (x.h.ze : Int), .int .i64 x.h.po, pv, .int .i64 x.h.no, nv, .int .i64 x.flags]
def pntV (x : Pnt) (av pv nv : Value) : Value := .agg (pntC x av pv nv)
/-- There is such a kind, with that temporality. -/
def kindB (x : Pnt) : Bool := decide ((x.kind = 3 ∧ x.temp = 0) ∨ ((x.kind = 1 ∨ x.kind = 2 ∨ x.kind = 4 ∨ x.kind = 5) ∧ (x.temp = 1 ∨ x.temp = 2)))
/-- A point's times are right. -/
def timesB (x : Pnt) : Bool := decide ((0 ≤ x.start ∧ x.time ≤ 4503599627370496) ∧ (if x.kind = 3 then x.start = x.time else x.start < x.time))
def sumB (x : Pnt) : Bool := decide (x.kind = 1 ∨ x.kind = 2)
/-- The point has no value but that of its kind. -/
def ownB (x : Pnt) : Bool := decide ((x.kind = 1 ∨ x.whole = 0) ∧ (x.kind = 2 ∨ x.kind = 3 ∨ x.kind = 5 ∨ x.re = 0) ∧ (x.kind = 5 ∨ x.im = 0) ∧ (x.kind = 4 ∨ ((x.h.sc = 0 ∧ x.h.ze = 0) ∧ (x.h.po = 0 ∧ x.h.no = 0) ∧ (x.h.pl.length = 0 ∧ x.h.nl.length = 0))))
/-- What is wrong with a point. -/
def chk (x : Pnt) : Nat :=
  if checkE x.name x.L ≠ 0 then checkE x.name x.L else
  if kindB x = false then 14 else
  if (x.mono = true ∧ sumB x = false) ∨ timesB x = false then 1 else
  if ownB x = false ∨ x.flags < 0 ∨ 31 < x.flags then 3 else
  if x.mono = true ∧ finI x.re = false then 11 else
  if x.mono = true ∧ (x.whole < 0 ∨ lessI x.re 0 = true) then 1 else x.h.err
/-- A point in memory. -/
structure PntAt (w : World) (x : Pnt) (ao : Option Addr) (c : Nat) (pv nv : Value) : Prop where
  ps : PsAt w ao x.L
  cap : x.L.length ≤ c
  hist : HistAt w x.h pv nv
theorem PntAt.on {w w' : World} {x : Pnt} {ao : Option Addr} {c : Nat} {pv nv : Value} (a : PntAt w x ao c pv nv) (hk : Kept (fun _ => False) w w') : PntAt w' x ao c pv nv := ⟨a.ps.kept hk, a.cap, a.hist.on hk⟩
/-- What the types bound. -/
structure Pnt.ok (x : Pnt) : Prop where
  kind : I64 x.kind
  temp : I64 x.temp
  start : I64 x.start
  time : I64 x.time
  whole : I64 x.whole
  re : 0 ≤ x.re ∧ x.re ≤ 18446744073709551615
  im : 0 ≤ x.im ∧ x.im ≤ 18446744073709551615
  h : x.h.ok
  flags : I64 x.flags
/-- A light point. -/
structure Pnt.light (x : Pnt) : Prop where
  name : x.name.size ≤ 1000
  len : x.L.length ≤ 20
  sh : Sh 1000 x.L
  pl : x.h.pl.length ≤ 1000
  nl : x.h.nl.length ≤ 1000
/-- A point's box. -/
def PBx (w : World) (q : Nat) (x : Pnt) (av pv nv : Value) : Prop := w.heap[q]? = some (.cells (pntC x av pv nv) 30 (0, 0))
theorem PBx.same {S : Nat → Prop} {w w' : World} {q : Nat} {x : Pnt} {av pv nv : Value} (b : PBx w q x av pv nv) (hk : Kept S w w') (hn : ¬ S q) : PBx w' q x av pv nv := hk.same b hn
theorem PBx.c {w : World} {q : Nat} {x : Pnt} {av pv nv : Value} (b : PBx w q x av pv nv) : (w.cell? ⟨q, 0, none⟩ = some (.string x.name) ∧ w.cell? ⟨q, 1, none⟩ = some av) ∧ (w.cell? ⟨q, 2, none⟩ = some (.int .i64 x.kind) ∧ w.cell? ⟨q, 3, none⟩ = some (.int .i64 x.temp) ∧ w.cell? ⟨q, 4, none⟩ = some (.bool x.mono) ∧
    w.cell? ⟨q, 5, none⟩ = some (.int .i64 x.start) ∧ w.cell? ⟨q, 6, none⟩ = some (.int .i64 x.time) ∧ w.cell? ⟨q, 7, none⟩ = some (.int .i64 x.whole)) ∧ (w.cell? ⟨q, 8, none⟩ = some (.int .u64 x.re) ∧ w.cell? ⟨q, 9, none⟩ = some (.int .u64 x.im)) ∧
    (w.cell? ⟨q, 10, none⟩ = some (.int .i64 x.h.sc) ∧ w.cell? ⟨q, 11, none⟩ = some (.int .u64 (x.h.ze : Int)) ∧ w.cell? ⟨q, 12, none⟩ = some (.int .i64 x.h.po) ∧ w.cell? ⟨q, 13, none⟩ = some pv ∧ w.cell? ⟨q, 14, none⟩ = some (.int .i64 x.h.no) ∧ w.cell? ⟨q, 15, none⟩ = some nv) ∧ w.cell? ⟨q, 16, none⟩ = some (.int .i64 x.flags) := by
  have h : ∀ (k : Nat) (v : Value), (pntC x av pv nv)[k]? = some v → w.cell? ⟨q, k, none⟩ = some v := fun k v hv => (cell_of_row w q k _ _ _ b).trans hv
  exact ⟨⟨h 0 _ rfl, h 1 _ rfl⟩, ⟨h 2 _ rfl, h 3 _ rfl, h 4 _ rfl, h 5 _ rfl, h 6 _ rfl, h 7 _ rfl⟩, ⟨h 8 _ rfl, h 9 _ rfl⟩, ⟨h 10 _ rfl, h 11 _ rfl, h 12 _ rfl, h 13 _ rfl, h 14 _ rfl, h 15 _ rfl⟩, h 16 _ rfl⟩
end Go.Proofs.YteflepcmblacaaaGreatDoor
