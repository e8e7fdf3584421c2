/- package symtab, layer 34: Find, Prefix. -/
import Derived.Test.YtkidbbmdlmnokaaT7
namespace Go.Proofs.Ytkidbbmdlmnokaa
open Go.RowKit
attribute [local go_sem ↓] Go.wp_at_zero Go.wp_at_succ

/-- What Find answers, of a place that Below tells. -/
def findZ (L : List ByteArray) (s : ByteArray) (z : Nat) : Nat × Bool := if z < L.length ∧ L.getD z ByteArray.empty = s then (z, true) else (0, false)
set_option maxHeartbeats 2000000 in
theorem tfind_any (tb : Nat) (L : List ByteArray) (s : ByteArray) (w : World) (hT : TabAt w tb L) (hl : L.length ≤ 1000000) :
    Calls Try.prog 41 #[.pointer (some ⟨tb, 0, none⟩), .string s] w fun e w' => ∃ z, SearchTo L.length (geAt L s) z ∧ e = .returned (.tuple #[.int .i64 ((findZ L s z).1 : Int), .bool (findZ L s z).2]) ∧ Kept (fun _ => False) w w' := by
  have HB := Lib.hid (tbelow_any tb L s w hT hl)
  have HT := Lib.hid hT
  have HL := Lib.hid hl
  clear hT hl
  go_enter Try.func41, Try.ntmps41
  go_wp2_with fail
  refine HB.out.mono ?_
  rintro e w1 ⟨z, rfl, hz, k1⟩
  have HZ := Lib.hid hz
  have HK := Lib.hid k1
  obtain ⟨ao, cp, hb, hs, _⟩ := HT.out.kept k1
  have c0 : w1.cell? ⟨tb, 0, none⟩ = some (.slice ao L.length cp) := by rw [cell_of_row _ _ _ _ _ _ hb]; rfl
  clear hz k1 hb
  by_cases h : z < L.length
  · have q : ((z : Int) == (L.length : Int)) = false := beqF (by omega)
    have hzl : (z : Int) < (L.length : Int) := by omega
    have hz0 : (0 : Int) ≤ (z : Int) := by omega
    have hg := List.getElem?_eq_getElem h
    have hgd : L.getD z ByteArray.empty = L[z] := by rw [List.getD_eq_getElem?_getD, hg]; rfl
    obtain ⟨x, hx⟩ : ∃ x, x = L[z] := ⟨_, rfl⟩
    rw [← hx] at hg hgd
    obtain ⟨g, o, ha, hcell⟩ := hs.cell hg
    subst ha
    by_cases hxs : x = s
    · have HX : Hid (findZ L s z = (z, true)) := Lib.hid (if_pos ⟨h, by rw [hgd, hxs]⟩)
      have q2 : (x.toList == s.toList) = true := beq_iff_eq.2 (by rw [hxs])
      clear hs hg hgd hx hxs h
      go_wp2
      go_ret2
      exact ⟨z, HZ.out, by rw [HX.out]; rfl, HK.out⟩
    · have HX : Hid (findZ L s z = (0, false)) := Lib.hid (if_neg (fun e => hxs (by rw [← hgd, e.2])))
      have q2 : (x.toList == s.toList) = false := beq_eq_false_iff_ne.2 (fun e => hxs (bl_inj (by unfold bl; rw [e])))
      clear hs hg hgd hx hxs h
      go_wp2
      go_ret2
      exact ⟨z, HZ.out, by rw [HX.out]; rfl, HK.out⟩
  · have hzn : z = L.length := by have := HZ.out.1; omega
    have HX : Hid (findZ L s z = (0, false)) := Lib.hid (if_neg (fun e => h e.1))
    have q : ((z : Int) == (L.length : Int)) = true := beqT (by omega)
    clear hs h hzn
    go_wp2
    go_ret2
    exact ⟨z, HZ.out, by rw [HX.out]; rfl, HK.out⟩
/-- Does the text at a place behind another one not begin with a text? -/
def noPre (L : List ByteArray) (z : Nat) (s : ByteArray) (k : Nat) : Bool := !begS (L.getD (z + k) ByteArray.empty) s
theorem enter_prefix (w : World) (args : Array Value) : (callFunc 83 args).run Try.prog w = .ok (.enter 83 args) w := by
  have hb : (Try.f83).body.isSome = true := by kernel_rfl
  obtain ⟨c, hc⟩ := Option.isSome_iff_exists.1 hb
  have h1 : (Try.f83).name ≠ "runtime.NumGoroutine" := by
    have : ((Try.f83).name == "runtime.NumGoroutine") = false := by kernel_rfl
    simpa using this
  simp [callFunc, Try.func83, h1, hc]
end Go.Proofs.Ytkidbbmdlmnokaa
