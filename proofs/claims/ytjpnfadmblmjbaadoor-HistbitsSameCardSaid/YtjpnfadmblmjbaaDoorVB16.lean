/- package bitio: Cut. -/
import Derived.Test.YtjpnfadmblmjbaaDoorVB14
import Derived.Deep.RegionWith
namespace Go.Proofs.YtjpnfadmblmjbaaDoor
open Go.RowKit
attribute [local go_sem ↓] Go.wp_at_zero Go.wp_at_succ

set_option maxHeartbeats 1000000 in
theorem bcut_no (B p : Nat) (v : Value) (bs : List Bool) (n : Int) (w : World) (HW : BwAt w B p v bs) (hn : n < 0 ∨ (bs.length : Int) < n) :
    Calls Tryd.prog 46 #[.pointer (some ⟨p, 0, none⟩), .int .i64 n] w fun e w' => e = .returned (.bool false) ∧ w = w' := by
  have hc := HW.c1
  by_cases h1 : n < 0
  · go_enter Tryd.func46, Tryd.ntmps46
    go_wp2
    go_ret
    exact ⟨rfl, rfl⟩
  · have h2 : (bs.length : Int) < n := by omega
    go_enter Tryd.func46, Tryd.ntmps46
    go_wp2
    go_ret
    exact ⟨rfl, rfl⟩

theorem packB_take (bs : List Bool) (n : Nat) (hn : n ≤ bs.length) (hr : n % 8 = 0) : packB (bs.take n) = (packB bs).take ((n + 7) / 8) := by
  symm
  have hlen : (bs.take n).length = n := by rw [List.length_take]; omega
  apply packB_eq
  · rw [List.length_take, packB_length, hlen]; omega
  · intro j hj
    rw [List.length_take, packB_length] at hj
    rw [List.getElem?_take, if_pos (by omega), packB_get _ _ (by omega), byteAt_take, if_neg (by omega), if_pos (by omega)]
theorem packB_takeX (bs : List Bool) (n : Nat) (hn : n ≤ bs.length) (hr : 0 < n % 8) : packB (bs.take n) = ((packB bs).take ((n + 7) / 8)).set (n / 8) (byteAt bs (n / 8) / 2 ^ (8 - n % 8) * 2 ^ (8 - n % 8)) := by
  symm
  have hlen : (bs.take n).length = n := by rw [List.length_take]; omega
  apply packB_eq
  · rw [List.length_set, List.length_take, packB_length, hlen]; omega
  · intro j hj
    rw [List.length_set, List.length_take, packB_length] at hj
    rw [List.getElem?_set, List.length_take, packB_length, byteAt_take]
    by_cases h : n / 8 = j
    · rw [if_pos h, if_pos (by omega), if_pos h.symm, h]
    · rw [if_neg h, if_neg (fun e => h e.symm), if_pos (by omega), List.getElem?_take, if_pos (by omega), packB_get _ _ (by omega)]

theorem mask_byte (b d : Nat) (hb : b < 256) (hd : d ≤ 8) : bits .and .u8 (b : Int) (255 * 2 ^ d % 256) = ((b / 2 ^ d * 2 ^ d : Nat) : Int) := by
  have h1 : (255 : Int) * 2 ^ d % 256 = ((255 * 2 ^ d % 256 : Nat) : Int) := by simp
  have h2 : 255 * 2 ^ d % 256 < 256 := Nat.mod_lt _ (by decide)
  rw [h1, u8_and_nat _ _ hb h2]
  congr 1
  apply Nat.eq_of_testBit_eq
  intro i
  have e : (256 : Nat) = 2 ^ 8 := rfl
  have e2 : (255 : Nat) = 2 ^ 8 - 1 := rfl
  rw [Nat.testBit_and, e, Nat.testBit_mod_two_pow, Nat.testBit_mul_two_pow, Nat.testBit_mul_two_pow, Nat.testBit_div_two_pow, e2, Nat.testBit_two_pow_sub_one]
  by_cases hi : d ≤ i
  · have e3 : i - d + d = i := by omega
    rw [e3]
    by_cases h8 : i < 8
    · simp [hi, h8]; omega
    · have hz : b.testBit i = false := Nat.testBit_lt_two_pow (Nat.lt_of_lt_of_le hb (by rw [e]; exact Nat.pow_le_pow_right (by omega) (by omega)))
      rw [hz]; simp
  · simp [hi]

/-- Behind the cutting of the row, ahead of that of the number. -/
structure CutMid (w w2 : World) (B p : Nat) (ao : Option Addr) (c : Nat) (bs : List Bool) (n : Nat) : Prop where
  base : B ≤ p
  box : w2.heap[p]? = some (.cells #[.slice ao ((n + 7) / 8) c, .int .i64 bs.length] 80 (0, 0))
  owns : w2.ownsRow B 5 1 (.slice ao ((n + 7) / 8) c) ((n + 7) / 8) (bys ((packB bs).take ((n + 7) / 8)))
  apart : (Value.slice ao ((n + 7) / 8) c).ownBlock ≠ some p
  kept : Kept (fun k => k = p) w w2
  le : n ≤ bs.length
theorem CutMid.c0 {w w2 : World} {B p c n : Nat} {ao : Option Addr} {bs : List Bool} (h : CutMid w w2 B p ao c bs n) : w2.cell? ⟨p, 0, none⟩ = some (.slice ao ((n + 7) / 8) c) := by rw [cell_of_row w2 p 0 _ _ _ h.box]; rfl
theorem CutMid.c1 {w w2 : World} {B p c n : Nat} {ao : Option Addr} {bs : List Bool} (h : CutMid w w2 B p ao c bs n) : w2.cell? ⟨p, 1, none⟩ = some (.int .i64 bs.length) := by rw [cell_of_row w2 p 1 _ _ _ h.box]; rfl
theorem CutMid.free {w w2 : World} {B p c n : Nat} {ao : Option Addr} {bs : List Bool} (h : CutMid w w2 B p ao c bs n) (j : Nat) : w2.frozen? ⟨p, j, none⟩ = false := by simp [World.frozen?, h.box]
theorem BwAt.cut1 {w w2 : World} {B p : Nat} {ao : Option Addr} {c : Nat} {bs : List Bool} (h : BwAt w B p (.slice ao (packB bs).length c) bs) {n m : Nat} (hn : n ≤ bs.length) (hm : m = (n + 7) / 8)
    (h2 : w2 = (w.setCell ⟨p, 0, none⟩ (.slice ao m c)).drew) : CutMid w w2 B p ao c bs n := by
  subst hm
  have hbox : w.heap[p]? = some (.cells #[.slice ao (packB bs).length c, .int .i64 bs.length] 80 (0, 0)) := h.box
  have hap : (Value.slice ao ((n + 7) / 8) c).ownBlock ≠ some p := by have := h.apart; cases ao <;> simp [Value.ownBlock] at this ⊢; exact this
  have K : Kept (fun k => k = p) w w2 := by rw [h2]; exact ((Kept.refl (fun k => k = p) w).setCell (fun _ => rfl) _).drew
  refine ⟨h.base, ?_, ?_, hap, K, hn⟩
  · have h3 : (w.setCell ⟨p, 0, none⟩ (.slice ao ((n + 7) / 8) c)).heap[p]? = some (.cells #[.slice ao ((n + 7) / 8) c, .int .i64 bs.length] 80 (0, 0)) := by simp [World.setCell, Array.getElem?_modify, hbox]
    rw [h2]; exact h3
  · have ho := own_takeH h.owns (k := (n + 7) / 8) (by rw [packB_length]; omega)
    have e : (bys (packB bs)).take ((n + 7) / 8) = bys ((packB bs).take ((n + 7) / 8)) := by unfold bys; rw [List.map_take]
    rw [e] at ho
    exact K.owns ho (fun k e hS => hap (by rw [e, hS]))
theorem CutMid.fin {w w2 : World} {B p c n : Nat} {ao : Option Addr} {bs : List Bool} {v : Value} (h : CutMid w w2 B p ao c bs n) (hv : v.ownBlock = ao.map (·.block)) (hr : n % 8 = 0) : BwTo w (w2.setCell ⟨p, 1, none⟩ (.int .i64 n)) B p v (bs.take n) := by
  have hle := h.le
  have hlen : (bs.take n).length = n := by rw [List.length_take]; omega
  have hpk := packB_take bs n h.le hr
  have hpl : (packB (bs.take n)).length = (n + 7) / 8 := by rw [packB_length, hlen]
  refine ⟨.slice ao ((n + 7) / 8) c, ⟨h.base, ?_, ?_, h.apart⟩, .inl (by rw [hv]; cases ao <;> rfl), (h.kept.setCell (fun _ => rfl) _).mono (fun _ _ e => .inl e)⟩
  · rw [hlen]; simp [World.setCell, Array.getElem?_modify, h.box]
  · rw [hpl, hpk]
    exact ((Kept.refl (fun k => k = p) w2).setCell (p := ⟨p, 1, none⟩) (fun _ => rfl) _).owns h.owns (fun k e hS => h.apart (by rw [e, hS]))

/-- Behind the number. -/
structure CutMid3 (w w3 : World) (B p : Nat) (ao : Option Addr) (c : Nat) (bs : List Bool) (n : Nat) : Prop where
  base : B ≤ p
  box : w3.heap[p]? = some (.cells #[.slice ao ((n + 7) / 8) c, .int .i64 n] 80 (0, 0))
  owns : w3.ownsRow B 5 1 (.slice ao ((n + 7) / 8) c) ((n + 7) / 8) (bys ((packB bs).take ((n + 7) / 8)))
  apart : (Value.slice ao ((n + 7) / 8) c).ownBlock ≠ some p
  kept : Kept (fun k => k = p) w w3
  le : n ≤ bs.length
theorem CutMid.mid3 {w w2 w3 : World} {B p c n : Nat} {ao : Option Addr} {bs : List Bool} (h : CutMid w w2 B p ao c bs n) (h3 : w3 = w2.setCell ⟨p, 1, none⟩ (.int .i64 n)) : CutMid3 w w3 B p ao c bs n := by
  subst h3
  exact ⟨h.base, by simp [World.setCell, Array.getElem?_modify, h.box], ((Kept.refl (fun k => k = p) w2).setCell (p := ⟨p, 1, none⟩) (fun _ => rfl) _).owns h.owns (fun k e hS => h.apart (by rw [e, hS])), h.apart, h.kept.setCell (fun _ => rfl) _, h.le⟩
theorem CutMid3.c0 {w w3 : World} {B p c n : Nat} {ao : Option Addr} {bs : List Bool} (h : CutMid3 w w3 B p ao c bs n) : w3.cell? ⟨p, 0, none⟩ = some (.slice ao ((n + 7) / 8) c) := by rw [cell_of_row w3 p 0 _ _ _ h.box]; rfl
theorem CutMid3.at_ {w w3 : World} {B p c n q : Nat} {ao : Option Addr} {bs : List Bool} (h : CutMid3 w w3 B p ao c bs n) (hr : 0 < n % 8) (hq : q = n / 8) :
    ∃ g, ao = some ⟨g, 0, none⟩ ∧ g ≠ p ∧ w3.cell? ⟨g, q, none⟩ = some (.int .u8 ((byteAt bs q : Nat) : Int)) ∧ w3.frozen? ⟨g, q, none⟩ = false := by
  have hle := h.le
  have hm : q < (n + 7) / 8 := by omega
  rcases h.owns.2 with ⟨_, h0⟩ | ⟨g, cap, cur, e, _, hg, _⟩
  · omega
  · injection e with e1 e2 e3
    subst e1
    refine ⟨g, rfl, fun e => h.apart (by rw [e]; rfl), ?_, by simp [World.frozen?, hg]⟩
    have hlen : q < ((packB bs).take ((n + 7) / 8)).length := by rw [List.length_take, packB_length]; omega
    rw [h.owns.cellAt q (by omega), bys_get hlen, List.getD_eq_getElem?_getD, List.getElem?_take, if_pos hm, packB_get _ _ (by omega)]; rfl
theorem CutMid3.fin3 {w w3 : World} {B p c n q g z : Nat} {bs : List Bool} {v : Value} (h : CutMid3 w w3 B p (some ⟨g, 0, none⟩) c bs n) (hv : v.ownBlock = (some (⟨g, 0, none⟩ : Addr)).map (·.block)) (hr : 0 < n % 8) (hq : q = n / 8)
    (hz : z = byteAt bs q / 2 ^ (8 - n % 8) * 2 ^ (8 - n % 8)) (j : Nat) : BwTo w ((w3.drewN j).setCell ⟨g, q, none⟩ (.int .u8 (z : Int))) B p v (bs.take n) := by
  have hle := h.le
  have hlen : (bs.take n).length = n := by rw [List.length_take]; omega
  have hgp : g ≠ p := fun e => h.apart (by rw [e]; rfl)
  have hpk := packB_takeX bs n h.le hr
  have hpl : (packB (bs.take n)).length = (n + 7) / 8 := by rw [packB_length, hlen]
  refine ⟨.slice (some ⟨g, 0, none⟩) ((n + 7) / 8) c, ⟨h.base, ?_, ?_, h.apart⟩, .inl (by rw [hv]; rfl), ((h.kept.drewN j).mono (fun _ _ e => .inl e)).setCell (fun _ => .inr (by rw [hv]; rfl)) _⟩
  · rw [hlen]
    have e := Below.heap_setCell (w3.drewN j) ⟨g, q, none⟩ (.int .u8 (z : Int)) p (fun e => hgp e.symm)
    rw [e]; exact h.box
  · rw [hpl, hpk]
    have o1 : (w3.drewN j).ownsRow B 5 1 (.slice (some ⟨g, 0, none⟩) ((n + 7) / 8) c) ((n + 7) / 8) (bys ((packB bs).take ((n + 7) / 8))) := h.owns
    have o2 := owns_set o1 q (.int .u8 (z : Int))
    have e : (bys ((packB bs).take ((n + 7) / 8))).set q (.int .u8 (z : Int)) = bys (((packB bs).take ((n + 7) / 8)).set (n / 8) (byteAt bs (n / 8) / 2 ^ (8 - n % 8) * 2 ^ (8 - n % 8))) := by
      unfold bys; rw [List.map_set, hz, hq]
    rw [e] at o2; exact o2

set_option maxHeartbeats 2000000 in
set_option maxRecDepth 100000 in
theorem bcut_yes (B p : Nat) (v : Value) (bs : List Bool) (n : Nat) (w : World) (HW : BwAt w B p v bs) (hl : bs.length ≤ 1000000000) (hn : n ≤ bs.length) :
    Calls Tryd.prog 46 #[.pointer (some ⟨p, 0, none⟩), .int .i64 n] w fun e w' => e = .returned (.bool true) ∧ BwTo w w' B p v (bs.take n) := by
  obtain ⟨i0, hi, hz0, hz1, hz2⟩ := info_parts Tryd.infoU8
  have hc0 := HW.c0
  have hc1 := HW.c1
  have hf0 := HW.free 0
  have hf1 := HW.free 1
  have h1 : ¬ (n : Int) < 0 := by omega
  have h2 : ¬ (bs.length : Int) < (n : Int) := by omega
  have h2b : decide (bs.length < n) = false := decide_eq_false (by omega)
  obtain ⟨ao, cp, rfl⟩ := ownsRow_slice HW.owns
  obtain ⟨m, hm⟩ : ∃ m, m = (n + 7) / 8 := ⟨_, rfl⟩
  have hcap := own_cap HW.owns
  have hmc : m ≤ cp := by rw [packB_length] at hcap; omega
  have s1 := fun w => run_cutH (P := Tryd.prog) Tryd.underlying33 hi hz1 ao (packB bs).length cp m hmc w
  have s2 := fun w => run_cutHAt (P := Tryd.prog) Tryd.underlying33 hi hz1 ao (packB bs).length cp m hmc w
  have hs : ∀ w, Calls Tryd.prog 54 #[.int .i64 (n : Int)] w fun e w' => e = .returned (.int .i64 (m : Int)) ∧ w = w' := fun w => by rw [hm]; exact bsize_any n (by omega) w
  have HSZ := Lib.hid hs
  have mw : IntKind.i64.wrap (m : Int) = (m : Int) := IntWalk.i64_in _ ⟨by omega, by omega⟩
  have hvb : (Value.slice ao (packB bs).length cp).ownBlock = ao.map (·.block) := by cases ao <;> rfl
  have HVB := Lib.hid hvb
  clear hvb
  have HWW := Lib.hid HW
  have HM := Lib.hid hm
  have hpl := HW.lt
  clear HW hs hm hcap
  go_enter Tryd.func46, Tryd.ntmps46
  go_wp2
  go_region_with (go_at_call 54; refine (HSZ.out _).mono ?_; rintro e w' ⟨rfl, rfl⟩)
  all_goals
    obtain ⟨w2, hw2⟩ : ∃ w2, w2 = (w.setCell ⟨p, 0, none⟩ (.slice ao m cp)).drew := ⟨_, rfl⟩
    have C2 := HWW.out.cut1 hn HM.out hw2
    rw [← hw2]
    clear hw2 hc0 hc1 hf0 hf1
    obtain ⟨r, hr⟩ : ∃ r, r = n % 8 := ⟨_, rfl⟩
    have r1 : (n : Int) % 8 = (r : Int) := by omega
    have hc0 := C2.c0
    rw [← HM.out] at hc0
    have hc1 := C2.c1
    have hf0 := C2.free 0
    have hf1 := C2.free 1
    by_cases hr0 : 0 < r
    · have hr1 : (0 : Int) < (r : Int) := by omega
      obtain ⟨w3, hw3⟩ : ∃ w3, w3 = w2.setCell ⟨p, 1, none⟩ (.int .i64 n) := ⟨_, rfl⟩
      have C3 := C2.mid3 hw3
      obtain ⟨q, hq⟩ : ∃ q, q = n / 8 := ⟨_, rfl⟩
      obtain ⟨d, hd⟩ : ∃ d, d = 8 - r := ⟨_, rfl⟩
      obtain ⟨g, rfl, hgp, hcell, hfr⟩ := C3.at_ (by omega) hq
      obtain ⟨b, hb⟩ : ∃ b, b = byteAt bs q := ⟨_, rfl⟩
      have hb2 : b < 256 := by rw [hb]; exact byteAt_lt _ _
      rw [← hb] at hcell
      have d1 : 8 - (r : Int) = (d : Int) := by omega
      have d2 : IntKind.i64.wrap (8 - (r : Int)) = (d : Int) := by rw [d1]; exact IntWalk.i64_in _ ⟨by omega, by omega⟩
      have hd0 : (0 : Int) ≤ (d : Int) := by omega
      obtain ⟨z, hz⟩ : ∃ z, z = b / 2 ^ d * 2 ^ d := ⟨_, rfl⟩
      have mk := mask_byte b d hb2 (by omega)
      have mk2 : bits .and .u8 (b : Int) (IntKind.u8.wrap (255 * 2 ^ d)) = (z : Int) := by rw [hz, ← mk, IntKind.wrap_u8]
      rw [← hz] at mk
      have r2 : (n : Int) / 8 = (q : Int) := by omega
      have r3 : IntKind.i64.wrap (q : Int) = (q : Int) := IntWalk.i64_in _ ⟨by omega, by omega⟩
      have hq0 : (0 : Int) ≤ (q : Int) := by omega
      have hqm : (q : Int) < (m : Int) := by have := HM.out; omega
      have k0 := C3.c0
      rw [← HM.out] at k0
      have fin := Lib.hid fun j => C3.fin3 HVB.out (by omega) hq (show z = byteAt bs q / 2 ^ (8 - n % 8) * 2 ^ (8 - n % 8) by rw [hz, hb, hd, hr]) j
      have HW3 := Lib.hid hw3
      clear C2 C3 hr hq hd hb hz hb2 hw3
      go_wp2
      rw [← HW3.out]
      clear hc0 hc1 hf0 hf1
      go_region
      go_wp2
      go_ret
      exact ⟨rfl, fin.out _⟩
    · have hr1 : ¬ (0 : Int) < (r : Int) := by omega
      have fin := Lib.hid (C2.fin HVB.out (by omega))
      clear C2 hr
      go_wp2
      go_ret
      exact ⟨rfl, fin.out⟩
end Go.Proofs.YtjpnfadmblmjbaaDoor
