/- Texts put together: F5. -/
import Derived.Test.YtficodklidaheaaDoorZz5
/- package frame, layer 4: First. -/
namespace Go.Proofs.YtficodklidaheaaDoor
open Go.RowKit
attribute [local go_sem ↓] Go.wp_at_zero Go.wp_at_succ

/-- A part of a row of bytes. -/
theorem Row8.cut {w : World} {ao : Option Addr} {c : Nat} {l : List Nat} (h : Row8 w (.slice ao l.length c) l) {lo hi : Nat} (h1 : lo ≤ hi) (h2 : hi ≤ l.length) (h3 : l.length ≤ c) :
    Row8 w (.slice (if c = lo then ao else ao.map (·.add lo)) (hi - lo) (c - lo)) ((l.drop lo).take (hi - lo)) := by
  obtain ⟨ao', c', e, hb, hc⟩ := h
  injection e with e1 _ e3
  subst e1; subst e3
  have hlen : ((l.drop lo).take (hi - lo)).length = hi - lo := by rw [List.length_take, List.length_drop]; omega
  refine ⟨if c = lo then ao else ao.map (·.add lo), c - lo, by rw [hlen], fun x hx => hb x (List.mem_of_mem_drop (List.mem_of_mem_take hx)), fun j hj => ?_⟩
  rw [hlen] at hj
  obtain ⟨a, rfl, hca⟩ := hc (lo + j) (by omega)
  refine ⟨a.add lo, by rw [if_neg (by omega)]; rfl, ?_⟩
  rw [add_add]
  have e : ((l.drop lo).take (hi - lo)).getD j 0 = l.getD (lo + j) 0 := by
    simp only [List.getD_eq_getElem?_getD, List.getElem?_take, if_pos hj, List.getElem?_drop]
  rw [e]; exact hca
theorem Row8.head {w : World} {ao : Option Addr} {c : Nat} {l : List Nat} (h : Row8 w (.slice ao l.length c) l) {hi : Nat} (h2 : hi ≤ l.length) : Row8 w (.slice ao hi c) (l.take hi) := by
  obtain ⟨ao', c', e, hb, hc⟩ := h
  injection e with e1 _ e3
  subst e1; subst e3
  have hlen : (l.take hi).length = hi := by rw [List.length_take]; omega
  refine ⟨ao, c, by rw [hlen], fun x hx => hb x (List.mem_of_mem_take hx), fun j hj => ?_⟩
  rw [hlen] at hj
  obtain ⟨a, rfl, hca⟩ := hc j (by omega)
  refine ⟨a, rfl, ?_⟩
  have e : (l.take hi).getD j 0 = l.getD j 0 := by
    simp only [List.getD_eq_getElem?_getD, List.getElem?_take, if_pos hj]
  rw [e]; exact hca

theorem own_weaken {w : World} {b1 b2 : Nat} {E : TypeId} {s : Nat} {v : Value} {n : Nat} {xs : List Value} (h : w.ownsRow b2 E s v n xs) (hb : b1 ≤ b2) : w.ownsRow b1 E s v n xs := by
  refine ⟨h.1, ?_⟩
  rcases h.2 with h0 | ⟨g, cap, cur, rfl, hg, rest⟩
  · exact .inl h0
  · exact .inr ⟨g, cap, cur, rfl, by omega, rest⟩
/-- A new row of the bytes l. -/
def Fresh8 (w : World) (l : List Nat) (e : Ending) (w' : World) : Prop :=
  ∃ v, e = .returned v ∧ w'.ownsRow w.heap.size 5 1 v l.length (b8 l) ∧ Kept (fun _ => False) w w'

set_option maxHeartbeats 400000 in
theorem clone8_any (v : Value) (l : List Nat) (w : World) (HB : Row8 w v l) (hl : l.length ≤ 100000000000) :
    Calls Tryd.prog 60 #[v] w (Fresh8 w l) := by
  obtain ⟨i0, hi, hz0, hz1, hz2⟩ := info_parts info_u8
  have q29 := fun (w : World) (a : Option Addr) (n c n' c' : Nat) => Lib.run_eql_slice_nil (P := Tryd.prog) w 22 5 a n c n' c' Tryd.underlying22
  have hv := HB
  obtain ⟨ao, c, rfl, hb, hc⟩ := hv
  cases ao with
  | none =>
    obtain rfl := HB.nil
    clear HB hc
    go_enter Tryd.func60, Tryd.ntmps60
    go_wp2
    go_ret
    exact ⟨_, rfl, World.ownsRow_nil _ _ _ _, Kept.refl _ _⟩
  | some a =>
    have hs := (HB.kept (((Kept.refl (fun _ => False) w).alloc (.cells #[] 5)))).src'
    have hown0 : (w.alloc (.cells #[] 5)).ownsRow w.heap.size 5 1 (.slice (some ⟨w.heap.size, 0, none⟩) 0 0) 0 [] := own_new w w.heap.size [] (by simp [maxLen]) rfl 0 rfl
    clear HB hc
    go_enter Tryd.func60, Tryd.ntmps60
    go_wp2_with (at_builtin; refine wpList_append_src _ rfl (.tmp 5) (.tmp 6) 22 22 rfl w.heap.size 5 i0 (.int .u8 0) 1 1 Tryd.underlying22 hi hz0 hz1 hz2 rfl (.slice (some ⟨w.heap.size, 0, none⟩) 0 0) 0 [] rfl hown0 (.slice (some a) l.length c) l.length (b8 l) rfl hs ?c1 ?c2 ?c3 ?_)
    case c1 => unfold maxLen; omega
    case c2 => omega
    case c3 => first | omega | (simp; try omega)
    · intro v' w1 hown hg _ hat
      have hk : Kept (fun _ => False) w w1 := ((Kept.refl _ w).alloc _).grown hg (fun k hk hlt => by simp [Value.ownBlock] at hk; omega)
      have hf : Fresh8 w l (.returned v') w1 := ⟨v', rfl, by simpa using hown, hk⟩
      clear hown hg hat hs hown0
      go_wp2
      go_ret
      exact hf

/-- The length that a frame tells; its payload; the error, by number. -/
def sizeL (l : List Nat) : Nat := numL ((l.drop 1).take 4)
def payL (l : List Nat) : List Nat := (l.drop 9).take (sizeL l)
def wantL (l : List Nat) : Nat := numL ((l.drop 5).take 4)
def firstE (l : List Nat) : Nat :=
  if l.length = 0 then 2 else if l.getD 0 0 ≠ 165 then 3 else if l.length < 9 then 2 else if 65536 < sizeL l then 4 else if l.length < 9 + sizeL l then 2 else
  if crcMore (crcMore 0 (l.take 5)) (payL l) ≠ wantL l then 5 else 0

/-- What First answers. -/
def Firsted (w : World) (l : List Nat) (e : Ending) (w' : World) : Prop :=
  if firstE l = 0 then ∃ v, e = .returned (.tuple #[v, .int .i64 ((9 + sizeL l : Nat) : Int), .int .i64 0]) ∧ w'.ownsRow w.heap.size 5 1 v (sizeL l) (b8 (payL l)) ∧ Kept (fun _ => False) w w'
  else e = .returned (.tuple #[.slice none 0 0, .int .i64 0, .int .i64 ((firstE l : Nat) : Int)]) ∧ Kept (fun _ => False) w w'
theorem Firsted.bad {w w' : World} {l : List Nat} {n : Nat} (hn : firstE l = n) (h0 : n ≠ 0) (hk : Kept (fun _ => False) w w') : Firsted w l (.returned (.tuple #[.slice none 0 0, .int .i64 0, .int .i64 (n : Int)])) w' := by
  unfold Firsted; rw [if_neg (by omega), hn]; exact ⟨rfl, hk⟩

set_option maxHeartbeats 2000000 in
theorem first_any (ao : Option Addr) (c : Nat) (l : List Nat) (hl : l.length ≤ 1000000000) (hcap : l.length ≤ c) (w : World) (HB : Row8 w (.slice ao l.length c) l) (HN : Nibs w) :
    Calls Tryd.prog 13 #[.slice ao l.length c] w (Firsted w l) := by
  obtain ⟨i0, hi, hz0, hz1, hz2⟩ := info_parts info_u8
  have hb := HB.lt
  by_cases h0 : l.length = 0
  · have HE := Lib.hid (Firsted.bad (w := w) (show firstE l = 2 by unfold firstE; rw [if_pos h0]) (by omega) (Kept.refl _ w))
    rw [h0]
    clear HB HN hb
    go_enter Tryd.func13, Tryd.ntmps13
    go_wp2
    go_ret3
    exact HE.out
  obtain ⟨a, rfl, hc0⟩ : ∃ a, ao = some a ∧ w.cell? a = some (.int .u8 ((l.getD 0 0 : Nat) : Int)) := by
    obtain ⟨ao', c', e, _, hc⟩ := HB
    cases e
    obtain ⟨a, rfl, h⟩ := hc 0 (by omega)
    rw [add_zero'] at h
    exact ⟨a, rfl, h⟩
  have p0 : (0 : Int) < (l.length : Int) := by omega
  have q0 : ((l.length : Int) == 0) = false := beq_eq_false_iff_ne.2 (by omega)
  obtain ⟨X, hX⟩ : ∃ X, X = l.getD 0 0 := ⟨_, rfl⟩
  rw [← hX] at hc0
  have HX := Lib.hid hX
  clear hX
  by_cases h1 : X ≠ 165
  · have HE := Lib.hid (Firsted.bad (w := w) (show firstE l = 3 by unfold firstE; rw [if_neg h0, ← HX.out, if_pos h1]) (by omega) (Kept.refl _ w))
    have q1 : ((X : Int) != 165) = true := by simp; omega
    clear HB HN hb h0 hcap
    go_enter Tryd.func13, Tryd.ntmps13
    go_wp2
    go_ret3
    exact HE.out
  have q1 : ((X : Int) != 165) = false := by simp; omega
  by_cases h2 : l.length < 9
  · have HE := Lib.hid (Firsted.bad (w := w) (show firstE l = 2 by unfold firstE; rw [if_neg h0, ← HX.out, if_neg h1, if_pos h2]) (by omega) (Kept.refl _ w))
    have q2 : decide ((l.length : Int) < 9) = true := decide_eq_true (by omega)
    clear HB HN hb h0 hcap
    go_enter Tryd.func13, Tryd.ntmps13
    go_wp2
    go_ret3
    exact HE.out
  have q2 : decide ((l.length : Int) < 9) = false := decide_eq_false (by omega)
  have R1 := HB.cut (lo := 1) (hi := 5) (by omega) (by omega) hcap
  obtain ⟨A1, hA1⟩ : ∃ A1, A1 = (if c = 1 then some a else (some a).map (·.add 1)) := ⟨_, rfl⟩
  obtain ⟨k1, hk1⟩ : ∃ k1, k1 = c - 1 := ⟨_, rfl⟩
  have s1 : ∀ w, (Instr.slice 22 (.slice (some a) l.length c) (some (.int .i64 1)) (some (.int .i64 5)) none).run Tryd.prog w = .ok (.slice A1 4 k1) w := fun w => by
    rw [hA1, hk1]; exact run_cut Tryd.underlying22 hi hz1 (some a) l.length c 1 5 (by omega) (by omega) w
  have s2 : ∀ w, (Instr.sliceAt 22 (.slice (some a) l.length c) (some (.int .i64 1)) (some (.int .i64 5)) none).run Tryd.prog w = .ok (.slice A1 4 k1) w := fun w => by
    rw [hA1, hk1]; exact run_cutAt Tryd.underlying22 hi hz1 (some a) l.length c 1 5 (by omega) (by omega) w
  rw [← hA1, ← hk1] at R1
  simp only [Nat.reduceSub] at R1
  clear hA1 hk1
  have N1 := number_any _ _ (by rw [List.length_take, List.length_drop]; omega) w R1
  obtain ⟨Z, hZ⟩ : ∃ Z, Z = sizeL l := ⟨_, rfl⟩
  rw [show numL ((l.drop 1).take 4) = Z from hZ.symm] at N1
  have HZ := Lib.hid hZ
  clear hZ
  have M1 := Lib.hid N1
  clear N1 R1
  by_cases h3 : 65536 < Z
  · have HE : Hid (∀ w', Kept (fun _ => False) w w' → Firsted w l (.returned (.tuple #[.slice none 0 0, .int .i64 0, .int .i64 4])) w') := Lib.hid fun w' hk => Firsted.bad (n := 4) (by unfold firstE; rw [if_neg h0, ← HX.out, if_neg h1, if_neg h2, ← HZ.out, if_pos h3]) (by omega) hk
    have q3 : decide ((65536 : Int) < (Z : Int)) = true := decide_eq_true (by omega)
    clear HB HN hb h0 hcap
    go_enter Tryd.func13, Tryd.ntmps13
    go_wp2_with (go_at_call 57; refine M1.out.mono ?_; rintro e w' ⟨rfl, q, rfl⟩)
    go_ret3
    exact HE.out _ ((Kept.refl _ w).drewN q)
  have q3 : decide ((65536 : Int) < (Z : Int)) = false := decide_eq_false (by omega)
  have e1 : IntKind.i64.wrap (Z : Int) = (Z : Int) := IntWalk.i64_in _ ⟨by omega, by omega⟩
  have e2 : IntKind.i64.wrap (9 + (Z : Int)) = ((9 + Z : Nat) : Int) := by rw [IntWalk.i64_in _ ⟨by omega, by omega⟩]; omega
  obtain ⟨E9, hE9⟩ : ∃ E9, E9 = 9 + Z := ⟨_, rfl⟩
  rw [← hE9] at e2
  by_cases h4 : l.length < E9
  · have HE : Hid (∀ w', Kept (fun _ => False) w w' → Firsted w l (.returned (.tuple #[.slice none 0 0, .int .i64 0, .int .i64 2])) w') := Lib.hid fun w' hk => Firsted.bad (n := 2) (by unfold firstE; rw [if_neg h0, ← HX.out, if_neg h1, if_neg h2, ← HZ.out, if_neg h3, if_pos (by omega)]) (by omega) hk
    have q4 : decide ((l.length : Int) < (E9 : Int)) = true := decide_eq_true (by omega)
    clear HB HN hb h0 hcap hE9
    go_enter Tryd.func13, Tryd.ntmps13
    go_wp2_with (go_at_call 57; refine M1.out.mono ?_; rintro e w' ⟨rfl, q, rfl⟩)
    go_ret3
    exact HE.out _ ((Kept.refl _ w).drewN q)
  have q4 : decide ((l.length : Int) < (E9 : Int)) = false := decide_eq_false (by omega)
  have R3 : ∀ w1, Kept (fun _ => False) w w1 → Row8 w1 _ _ := fun w1 h => (HB.head (hi := 5) (by omega)).kept h
  have R5 : ∀ w1, Kept (fun _ => False) w w1 → Row8 w1 _ _ := fun w1 h => (HB.cut (lo := 9) (hi := E9) (by omega) (by omega) hcap).kept h
  have R7 : ∀ w1, Kept (fun _ => False) w w1 → Row8 w1 _ _ := fun w1 h => (HB.cut (lo := 5) (hi := 9) (by omega) (by omega) hcap).kept h
  obtain ⟨A5, hA5⟩ : ∃ A5, A5 = (if c = 9 then some a else (some a).map (·.add 9)) := ⟨_, rfl⟩
  obtain ⟨k5, hk5⟩ : ∃ k5, k5 = c - 9 := ⟨_, rfl⟩
  obtain ⟨A7, hA7⟩ : ∃ A7, A7 = (if c = 5 then some a else (some a).map (·.add 5)) := ⟨_, rfl⟩
  obtain ⟨k7, hk7⟩ : ∃ k7, k7 = c - 5 := ⟨_, rfl⟩
  have hZ9 : E9 - 9 = Z := by omega
  have s3 : ∀ w, (Instr.slice 22 (.slice (some a) l.length c) none (some (.int .i64 5)) none).run Tryd.prog w = .ok (.slice (some a) 5 c) w := fun w =>
    run_cutH Tryd.underlying22 hi hz1 (some a) l.length c 5 (by omega) w
  have s4 : ∀ w, (Instr.sliceAt 22 (.slice (some a) l.length c) none (some (.int .i64 5)) none).run Tryd.prog w = .ok (.slice (some a) 5 c) w := fun w =>
    run_cutHAt Tryd.underlying22 hi hz1 (some a) l.length c 5 (by omega) w
  have s5 : ∀ w, (Instr.slice 22 (.slice (some a) l.length c) (some (.int .i64 9)) (some (.int .i64 (E9 : Int))) none).run Tryd.prog w = .ok (.slice A5 Z k5) w := fun w => by
    rw [hA5, hk5, ← hZ9]; exact run_cut Tryd.underlying22 hi hz1 (some a) l.length c 9 E9 (by omega) (by omega) w
  have s6 : ∀ w, (Instr.sliceAt 22 (.slice (some a) l.length c) (some (.int .i64 9)) (some (.int .i64 (E9 : Int))) none).run Tryd.prog w = .ok (.slice A5 Z k5) w := fun w => by
    rw [hA5, hk5, ← hZ9]; exact run_cutAt Tryd.underlying22 hi hz1 (some a) l.length c 9 E9 (by omega) (by omega) w
  have s7 : ∀ w, (Instr.slice 22 (.slice (some a) l.length c) (some (.int .i64 5)) (some (.int .i64 9)) none).run Tryd.prog w = .ok (.slice A7 4 k7) w := fun w => by
    rw [hA7, hk7]; exact run_cut Tryd.underlying22 hi hz1 (some a) l.length c 5 9 (by omega) (by omega) w
  have s8 : ∀ w, (Instr.sliceAt 22 (.slice (some a) l.length c) (some (.int .i64 5)) (some (.int .i64 9)) none).run Tryd.prog w = .ok (.slice A7 4 k7) w := fun w => by
    rw [hA7, hk7]; exact run_cutAt Tryd.underlying22 hi hz1 (some a) l.length c 5 9 (by omega) (by omega) w
  rw [← hA5, ← hk5, hZ9] at R5
  rw [← hA7, ← hk7] at R7
  simp only [Nat.reduceSub] at R7
  rw [show (l.drop 9).take Z = payL l by rw [HZ.out]; rfl] at R5
  have hpl : (payL l).length = Z := by unfold payL; rw [← HZ.out, List.length_take, List.length_drop]; omega
  clear hA5 hk5 hA7 hk7
  have hS := crcMore_lt 0 (l.take 5)
  have D1 := fun w1 h n => (crcOf_any _ (l.take 5) (by rw [List.length_take]; omega) (World.drewN w1 n) (R3 _ (Kept.drewN h n)) (HN.kept (Kept.drewN h n))).mono fun e w' h => And.intro h.1 h.2.symm
  have D2 := fun w1 h n => (more_any (crcMore 0 (l.take 5)) _ (payL l) hS (by omega) (World.drewN w1 n) (R5 _ (Kept.drewN h n)) (HN.kept (Kept.drewN h n))).mono fun e w' h => And.intro h.1 h.2.symm
  have D3 := fun w1 h n => number_any _ _ (by rw [List.length_take, List.length_drop]; omega) (World.drewN w1 n) (R7 _ (Kept.drewN h n))
  obtain ⟨S0, hS0⟩ : ∃ x, x = crcMore 0 (l.take 5) := ⟨_, rfl⟩
  obtain ⟨S1, hS1⟩ : ∃ x, x = crcMore S0 (payL l) := ⟨_, rfl⟩
  obtain ⟨S2, hS2⟩ : ∃ x, x = wantL l := ⟨_, rfl⟩
  rw [← hS0] at D1 D2
  rw [← hS1] at D2
  rw [show numL ((l.drop 5).take 4) = S2 from hS2.symm] at D3
  have M3 := Lib.hid D1
  have M5 := Lib.hid D2
  have M7 := Lib.hid D3
  clear D1 D2 D3 R3 R7
  by_cases h5 : S1 ≠ S2
  · have HE : Hid (∀ w', Kept (fun _ => False) w w' → Firsted w l (.returned (.tuple #[.slice none 0 0, .int .i64 0, .int .i64 5])) w') := Lib.hid fun w' hk => Firsted.bad (n := 5) (by unfold firstE; rw [if_neg h0, ← HX.out, if_neg h1, if_neg h2, ← HZ.out, if_neg h3, if_neg (by omega), ← hS0, ← hS1, ← hS2, if_pos h5]) (by omega) hk
    have q5 : ((S1 : Int) != (S2 : Int)) = true := by simp; omega
    clear HB HN hb h0 hcap hE9 hS0 hS1 hS2 hpl hZ9 hl
    go_enter Tryd.func13, Tryd.ntmps13
    go_wp2_with (go_at_call 57; refine M1.out.mono ?_; rintro e w1 ⟨rfl, q, hq⟩; have HK : Hid (Kept (fun _ => False) w w1) := Lib.hid (hq ▸ (Kept.refl _ w).drewN q); clear hq)
    go_quiet (first
      | (go_at_call 59; refine Calls.quiet_of_same (M3.out _ HK.out _))
      | (go_at_call 58; refine Calls.quiet_of_same (M5.out _ HK.out _))
      | (go_at_call 57; refine Calls.quiet_of (M7.out _ HK.out _)))
    go_wp2
    go_ret3
    exact HE.out _ (HK.out.drewN _)
  have q5 : ((S1 : Int) != (S2 : Int)) = false := by simp; omega
  have HE : Hid (∀ v w', w'.ownsRow w.heap.size 5 1 v Z (b8 (payL l)) → Kept (fun _ => False) w w' → Firsted w l (.returned (.tuple #[v, .int .i64 E9, .int .i64 0])) w') := Lib.hid fun v w' ho hk => by
    unfold Firsted
    rw [if_pos (by unfold firstE; rw [if_neg h0, ← HX.out, if_neg h1, if_neg h2, ← HZ.out, if_neg h3, if_neg (by omega), ← hS0, ← hS1, ← hS2, if_neg h5])]
    exact ⟨v, by rw [hE9, HZ.out], HZ.out ▸ ho, hk⟩
  have R6 := Lib.hid fun w1 h n => clone8_any _ (payL l) (World.drewN w1 n) (R5 _ (Kept.drewN h n)) (by omega)
  have hpl' := Lib.hid hpl
  clear HB HN hb h0 hcap hE9 hS0 hS1 hS2 hpl hZ9 hl R5
  go_enter Tryd.func13, Tryd.ntmps13
  go_wp2_with (go_at_call 57; refine M1.out.mono ?_; rintro e w1 ⟨rfl, q, hq⟩; have HK : Hid (Kept (fun _ => False) w w1) := Lib.hid (hq ▸ (Kept.refl _ w).drewN q); clear hq)
  go_quiet (first
    | (go_at_call 59; refine Calls.quiet_of_same (M3.out _ HK.out _))
    | (go_at_call 58; refine Calls.quiet_of_same (M5.out _ HK.out _))
    | (go_at_call 57; refine Calls.quiet_of (M7.out _ HK.out _)))
  have R7 := Lib.hid (R6.out _ HK.out nq)
  have HK2 := Lib.hid (HK.out.drewN nq)
  go_wp2_with (go_at_call 60; refine R7.out.mono ?_; rintro e w' ⟨v', rfl, ho, hk⟩; have HO := Lib.hid ho; have HJ := Lib.hid hk; clear ho hk)
  go_ret3
  refine HE.out _ _ ?_ (HK2.out.trans HJ.out)
  have := HO.out
  rw [hpl'.out] at this
  exact own_weaken this HK2.out.size
end Go.Proofs.YtficodklidaheaaDoor
