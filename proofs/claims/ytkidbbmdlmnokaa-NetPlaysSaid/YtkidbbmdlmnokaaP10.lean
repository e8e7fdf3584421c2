/- package pack's reader: Done, Num behind an error; a slice of bytes that came in. -/
import Derived.Test.YtkidbbmdlmnokaaP9
import Derived.Test.YtkidbbmdlmnokaaL3
import Derived.Test.YtkidbbmdlmnokaaL5
import Derived.Deep.RegionHeld3
import Derived.Outline
namespace Go.Proofs.Ytkidbbmdlmnokaa
open Go.RowKit
attribute [local go_sem ↓] Go.wp_at_zero Go.wp_at_succ

theorem quietSame {P : Program} {f : FuncId} {args : Array Value} {w : World} {n : Nat} {v : Value}
    (h : Calls P f args (w.drewN n) fun e w' => e = .returned v ∧ w.drewN n = w') : Calls P f args (w.drewN n) fun e w'' => e = .returned v ∧ ∃ m, w'' = w.drewN m :=
  Calls.quiet_of_same (h.mono fun _ _ ⟨a, b⟩ => ⟨a, b.symm⟩)
theorem quietDrawn {P : Program} {f : FuncId} {args : Array Value} {w : World} {n : Nat} {v : Value}
    (h : Calls P f args (w.drewN n) fun e w' => Drawn (w.drewN n) w' (e = .returned v)) : Calls P f args (w.drewN n) fun e w'' => e = .returned v ∧ ∃ m, w'' = w.drewN m :=
  Calls.quiet_of (h.mono fun _ _ ⟨a, b⟩ => ⟨a, b⟩)

set_option maxHeartbeats 400000 in
set_option maxRecDepth 100000 in
theorem done_err (B p : Nat) (v : Value) (l : List Int) (t : Nat) (e : Int) (w : World) (HR : RdAt 113 5 w B p v l t e) (he : (e == 0) = false) :
    Calls Try.prog 72 #[.pointer (some ⟨p, 0, none⟩)] w fun e' w' => Drawn w w' (e' = .returned (.int .i64 e)) := by
  have hc2 := HR.c2
  go_enter Try.func72, Try.ntmps72
  go_wp2
  go_ret
  exact ⟨rfl, 0, rfl⟩

set_option maxHeartbeats 400000 in
set_option maxRecDepth 100000 in
theorem done_ok (B p : Nat) (v : Value) (l : List Int) (t : Nat) (w : World) (HR : RdAt 113 5 w B p v l t 0) (hl : l.length ≤ 100000000000) :
    Calls Try.prog 72 #[.pointer (some ⟨p, 0, none⟩)] w fun e' w' => Drawn w w' (e' = .returned (.int .i64 (if t = l.length then 0 else 3))) := by
  have hc2 := HR.c2
  have ht := HR.taken
  by_cases h : t = l.length
  · have q : ¬ (0 : Int) < (l.length : Int) - (t : Int) := by omega
    clear h
    go_enter Try.func72, Try.ntmps72
    go_wp2_with (go_at_call 71; refine (left_any B p _ l t 0 _ HR hl).mono ?_; rintro e w' ⟨rfl, q, rfl⟩)
    go_ret
    exact ⟨rfl, _, rfl⟩
  · have q : (0 : Int) < (l.length : Int) - (t : Int) := by omega
    go_enter Try.func72, Try.ntmps72
    go_wp2_with (go_at_call 71; refine (left_any B p _ l t 0 _ HR hl).mono ?_; rintro e w' ⟨rfl, q, rfl⟩)
    go_ret
    exact ⟨rfl, _, rfl⟩

set_option maxHeartbeats 1000000 in
set_option maxRecDepth 100000 in
theorem look_err (B p : Nat) (v : Value) (l : List Int) (t : Nat) (e : Int) (w : World) (HR : RdAt 113 5 w B p v l t e) (he : (e != 0) = true) :
    Calls Try.prog 90 #[.pointer (some ⟨p, 0, none⟩)] w (Looked 113 5 w B p v l t (0, 0, e)) := by
  have hc2 := HR.c2
  have hf2 := HR.free 2
  go_enter Try.func90, Try.ntmps90
  go_wp2
  refine wp_scope_jumps 0 (AtLabel 113 5 w B p v l t (0, 0, e)) (fun _ _ => 0) rfl ?_ ?_
  · go_wp2
    go_quiet (fail)
    go_wp2
    go_step3
    exact ⟨rfl, 0, 0, e, e, ⟨_, _, _, _, _, _, _, _, _, _, _, _, _, _, _, _, _, _, _, _, _, _, _, _, _, _, _, _, _, _, _, _, _, _, _, _, _, _, _, _, _, _, _, _, _, _, _, _, _, _, _, _, _, _, _, _, _, _, _, _, _, _, _, _, _, _, _, _, _, _, rfl⟩, HR.drewN _, (Kept.refl _ _).drewN _, fun h => absurd h (by simpa using he), fun _ => rfl⟩
  · intro a wl hJ
    obtain ⟨x, k, e1, e0, ⟨_, _, _, _, _, _, _, _, _, _, _, _, _, _, _, _, _, _, _, _, _, _, _, _, _, _, _, _, _, _, _, _, _, _, _, _, _, _, _, _, _, _, _, _, _, _, _, _, _, _, _, _, _, _, _, _, _, _, _, _, _, _, _, _, _, _, _, _, _, _, rfl⟩, HRl, hkl, hz, hnz⟩ := hJ
    have hc2 := HRl.c2
    have hf2 := HRl.free 2
    have he1 : e1 ≠ 0 := fun h => by have := (hz h).2.1; simp at this; simp [this.2.2] at he
    have HH := Lib.hid (hnz he1)
    have hb : (e1 != 0) = true := by simp [he1]
    clear hz hnz he1
    go_wp2
    simp only [Exit.jump]
    go_ret2
    exact ⟨rfl, by rw [HH.out]; exact HRl.setErr, hkl.setCell (fun _ => rfl) _⟩

set_option maxHeartbeats 400000 in
set_option maxRecDepth 100000 in
theorem rnum_err (B p : Nat) (v : Value) (l : List Int) (t : Nat) (e : Int) (w : World) (HR : RdAt 113 5 w B p v l t e) (hl : l.length ≤ 100000000000) (he : (e != 0) = true) :
    Calls Try.prog 62 #[.pointer (some ⟨p, 0, none⟩)] w (Read 113 5 w B p v l t (0, 0, e)) := by
  have ht := HR.taken
  go_enter Try.func62, Try.ntmps62
  go_wp2_with fail
  refine (look_err B p v l t e w HR he).mono ?_
  rintro e1 w' ⟨rfl, HR1, hk⟩
  have hc1 := HR1.c1
  have hf1 := HR1.free 1
  have fin := Lib.hid (HR1.setAt ht)
  go_wp2
  go_ret
  exact ⟨rfl, fin.out, hk.setCell (fun _ => rfl) _⟩

/-- A slice of bytes that came in. -/
theorem IsRow.bytes {w : World} {a : Option Addr} {len cap : Nat} {zs : List Int} (h : IsRow .u8 w a len cap zs) :
    ∃ l : List Int, l.length = len ∧ SliceAt w (.slice a len cap) a len cap (u8s l) ∧ len ≤ cap ∧ ∀ x ∈ l, 0 ≤ x ∧ x < 256 := by
  rcases h with ⟨rfl, rfl, rfl, rfl⟩ | ⟨x, rfl, hl, _, hz, hc, hw⟩
  · exact ⟨[], rfl, ⟨rfl, rfl, (fun _ => rfl), (fun a ha => by cases ha)⟩, Nat.le_refl _, (fun x hx => by cases hx)⟩
  · refine ⟨zs.take len, by rw [List.length_take]; omega, ⟨rfl, by simp [u8s]; omega, (fun h => by cases h), fun a ha j u hu => ?_⟩, hl, fun y hy => ?_⟩
    · cases ha
      have hj : j < len := by
        have := (List.getElem?_eq_some_iff.1 hu).1
        simp [u8s] at this; omega
      rw [hc j (by omega)]
      have e : (u8s (zs.take len))[j]? = some (.int .u8 (zs.getD j 0)) := by simp [u8s, hj, List.getD_eq_getElem?_getD, show j < zs.length by omega]
      rw [e] at hu
      exact hu
    · have := bd_u8 (hw y (List.mem_of_mem_take hy))
      omega

/-- The first bytes of a slice, as a text. -/
theorem SliceAt.str {w : World} {g off n c m c' : Nat} {l : List Int} (h : SliceAt w (.slice (some ⟨g, off, Option.none⟩) n c) (some ⟨g, off, Option.none⟩) n c (u8s l)) (hm : m ≤ n) {P : Program} (src e dst : TypeId) (hs : P.underlying src = some (.slice e)) (he : P.underlying e = some (.int .u8)) (hd : P.underlying dst = some .string) :
    (convert src dst (.slice (some ⟨g, off, Option.none⟩) m c')).run P w = .ok (.string (strOfNums (l.take m))) w := by
  have hl : l.length = n := by have := h.len; simpa [u8s] using this
  refine run_convert_bytes_arg w src e hs he g off m c' (l.take m) (by rw [List.length_take]; omega) (fun i hi => ?_) dst hd
  have := h.cells _ rfl i (.int .u8 (l.getD i 0)) (by simp [u8s, List.getD_eq_getElem?_getD, List.getElem?_eq_getElem (show i < l.length by omega)])
  rw [Go.WideShapes.add_plain] at this
  rw [this]
  simp [List.getD_eq_getElem?_getD, hi]
end Go.Proofs.Ytkidbbmdlmnokaa
