/- Layer 12: the walk of PointKeys (written by tools/gen_XI21.py). -/
import Derived.Test.YteflepcmblacaaaGreatDoorI20
import Derived.Test.YteflepcmblacaaaGreatDoorI19
import Derived.Test.YteflepcmblacaaaGreatDoorI18
import Derived.Test.YteflepcmblacaaaGreatDoorI15
import Derived.Test.YteflepcmblacaaaGreatDoorI13
namespace Go.Proofs.YteflepcmblacaaaGreatDoor
open Go.RowKit
attribute [local go_sem ↓] Go.wp_at_zero Go.wp_at_succ

theorem key_to {x : Pnt} {w w' : World} {e : Ending} (h : KeyTo x w e w') : ∃ s n, e = .returned (.tuple #[.string s, .int .i64 n]) ∧ Kept (fun _ => False) w w' ∧ (n = 0 → chk x = 0 ∧ s = keyT x) := by
  rcases h with ⟨h, rfl, k⟩ | ⟨h, rfl, k⟩
  · exact ⟨_, _, rfl, k, fun e => by omega⟩
  · exact ⟨_, _, rfl, k, fun _ => ⟨h, rfl⟩⟩
set_option maxRecDepth 100000 in
set_option maxHeartbeats 16000000 in
theorem pointKeys_walk0 (x y : Pnt) (xaa xpa xna yaa ypa yna : Option Addr) (xac xpc xnc yac ypc ync : Nat) (W : World) (hx : PntAt W x xaa xac (.slice xpa x.h.pl.length xpc) (.slice xna x.h.nl.length xnc)) (hy : PntAt W y yaa yac (.slice ypa y.h.pl.length ypc) (.slice yna y.h.nl.length ync)) (hox : x.ok) (hoy : y.ok) (hlx : x.L.length ≤ 9223372036854775807) (hly : y.L.length ≤ 9223372036854775807) :
    Calls Tryz.prog 4 #[pntV x (.slice xaa x.L.length xac) (.slice xpa x.h.pl.length xpc) (.slice xna x.h.nl.length xnc), pntV y (.slice yaa y.L.length yac) (.slice ypa y.h.pl.length ypc) (.slice yna y.h.nl.length ync)] W fun e w' => e = .returned (.bool true) ∧ Kept (fun _ => False) W w' := by
  have HAW := Lib.hid (fun w => awake12_any w)
  obtain ⟨q, hq⟩ : ∃ q, q = W.heap.size := ⟨_, rfl⟩
  obtain ⟨CX, hCX⟩ : ∃ a, a = pntC x (.slice xaa x.L.length xac) (.slice xpa x.h.pl.length xpc) (.slice xna x.h.nl.length xnc) := ⟨_, rfl⟩
  obtain ⟨CY, hCY⟩ : ∃ a, a = pntC y (.slice yaa y.L.length yac) (.slice ypa y.h.pl.length ypc) (.slice yna y.h.nl.length ync) := ⟨_, rfl⟩
  have hvx : pntV x (.slice xaa x.L.length xac) (.slice xpa x.h.pl.length xpc) (.slice xna x.h.nl.length xnc) = .agg CX := by rw [hCX]; rfl
  have hvy : pntV y (.slice yaa y.L.length yac) (.slice ypa y.h.pl.length ypc) (.slice yna y.h.nl.length ync) = .agg CY := by rw [hCY]; rfl
  have HIX : Hid ((Tryz.prog.info? 30).map (·.size) = some CX.size) := Lib.hid (point_info.trans (by rw [hCX]; rfl))
  have HIY : Hid ((Tryz.prog.info? 30).map (·.size) = some CY.size) := Lib.hid (point_info.trans (by rw [hCY]; rfl))
  obtain ⟨w2, hw2⟩ : ∃ w2, w2 = (W.alloc (.cells CX 30)).alloc (.cells CY 30) := ⟨_, rfl⟩
  have k2 : Kept (fun _ => False) W w2 := by rw [hw2]; exact ((Kept.refl _ _).alloc _).alloc _
  have hb1 : w2.heap[q]? = some (.cells CX 30 (0, 0)) := by rw [hw2, hq]; exact ((Kept.refl (fun _ => False) _).alloc _).same (heap_alloc_new W _) (fun x => x)
  have hb2 : w2.heap[q + 1]? = some (.cells CY 30 (0, 0)) := by rw [hw2, hq]; exact box_second2 W _ _
  have HBX : Hid (∀ w', Kept (fun _ => False) w2 w' → (fun w' => w'.heap[q]? = some (.cells CX 30 (0, 0)) ∧ w'.heap[q + 1]? = some (.cells CY 30 (0, 0))) w') := Lib.hid (fun w' k => ⟨k.same hb1 (fun x => x), k.same hb2 (fun x => x)⟩)
  have HSS : Hid (∀ w', Kept (fun _ => False) w2 w' → (fun w' => (w'.cell? ⟨q, 0, none⟩ = some (.string x.name) ∧ w'.cell? ⟨q, 1, none⟩ = some (.slice xaa x.L.length xac) ∧ w'.cell? ⟨q, 2, none⟩ = some (.int .i64 x.kind) ∧ w'.cell? ⟨q, 3, none⟩ = some (.int .i64 x.temp) ∧ w'.cell? ⟨q, 4, none⟩ = some (.bool x.mono)) ∧ (w'.cell? ⟨q + 1, 0, none⟩ = some (.string y.name) ∧ w'.cell? ⟨q + 1, 1, none⟩ = some (.slice yaa y.L.length yac) ∧ w'.cell? ⟨q + 1, 2, none⟩ = some (.int .i64 y.kind) ∧ w'.cell? ⟨q + 1, 3, none⟩ = some (.int .i64 y.temp) ∧ w'.cell? ⟨q + 1, 4, none⟩ = some (.bool y.mono))) w') := Lib.hid (fun w' k => by
    have a : PBx w' q x (.slice xaa x.L.length xac) (.slice xpa x.h.pl.length xpc) (.slice xna x.h.nl.length xnc) := by have := (HBX.out w' k).1; rwa [hCX] at this
    have b : PBx w' (q + 1) y (.slice yaa y.L.length yac) (.slice ypa y.h.pl.length ypc) (.slice yna y.h.nl.length ync) := by have := (HBX.out w' k).2; rwa [hCY] at this
    have a' := a.c
    have b' := b.c
    exact ⟨⟨a'.1.1, a'.1.2, a'.2.1.1, a'.2.1.2.1, a'.2.1.2.2.1⟩, b'.1.1, b'.1.2, b'.2.1.1, b'.2.1.2.1, b'.2.1.2.2.1⟩)
  have HX := Lib.hid (fun w' (k : Kept (fun _ => False) w2 w') => hx.on (k2.trans k))
  have HY := Lib.hid (fun w' (k : Kept (fun _ => False) w2 w') => hy.on (k2.trans k))
  have HLX := Lib.hid (fun w' (k : Kept (fun _ => False) w2 w') => refLight12_any x xaa xpa xna xac xpc xnc w' (HX.out w' k) hlx)
  have HLY := Lib.hid (fun w' (k : Kept (fun _ => False) w2 w') => refLight12_any y yaa ypa yna yac ypc ync w' (HY.out w' k) hly)
  rw [hvx] at HLX ⊢
  rw [hvy] at HLY ⊢
  have HW2 := Lib.hid (And.intro hw2 hq)
  have HK02 := Lib.hid k2
  clear hw2 hq k2 hb1 hb2
  cases hBX : lightP x with
  | false =>
    rw [hBX] at HLX
    clear hBX hx hy hvx hvy hCX hCY
    go_enter Tryz.func4, Tryz.ntmps4
    go_upto_region 1 with fail
    rw [← HW2.out.1, ← HW2.out.2]
    go_wp2_with fail
    refine (HAW.out w2).mono ?_
    rintro e w3 ⟨rfl, k3⟩
    have HK3 := Lib.hid k3
    have HB3 := Lib.hid (HBX.out w3 k3)
    clear k3
    go_wp2_with (first
      | (refine wpList_load_row rfl 30 (.tmp 2) rfl q rfl 30 _ (0, 0) _ HB3.out.1 Tryz.underlying30 rfl HIX.out ?_)
      | fail)
    refine (HLX.out w3 HK3.out).mono ?_
    rintro e w4 ⟨rfl, k4⟩
    have HK4 := Lib.hid (HK3.out.trans k4)
    clear k4
    go_wp2
    go_ret
    exact ⟨rfl, HK02.out.trans HK4.out⟩
  | true =>
    have hli := lightP_of hBX
    rw [hBX] at HLX
    clear hBX
    cases hBY : lightP y with
    | false =>
      rw [hBY] at HLY
      clear hBY hx hy hvx hvy hCX hCY
      go_enter Tryz.func4, Tryz.ntmps4
      go_upto_region 1 with fail
      rw [← HW2.out.1, ← HW2.out.2]
      go_wp2_with fail
      refine (HAW.out w2).mono ?_
      rintro e w3 ⟨rfl, k3⟩
      have HK3 := Lib.hid k3
      have HB3 := Lib.hid (HBX.out w3 k3)
      clear k3
      go_wp2_with (first
        | (refine wpList_load_row rfl 30 (.tmp 2) rfl q rfl 30 _ (0, 0) _ HB3.out.1 Tryz.underlying30 rfl HIX.out ?_)
        | fail)
      refine (HLX.out w3 HK3.out).mono ?_
      rintro e w4 ⟨rfl, k4⟩
      have HK4 := Lib.hid (HK3.out.trans k4)
      have HB4 := Lib.hid (HBX.out w4 HK4.out)
      clear k4
      go_wp2_with (first
        | (refine wpList_load_row rfl 30 (.tmp 3) rfl (q + 1) rfl 30 _ (0, 0) _ HB4.out.2 Tryz.underlying30 rfl HIY.out ?_)
        | (refine wpList_load_rowG rfl 30 (.tmp 3) rfl (q + 1) rfl 30 _ (0, 0) _ HB4.out.2 Tryz.underlying30 rfl HIY.out ?_)
        | fail)
      refine (HLY.out w4 HK4.out).mono ?_
      rintro e w5 ⟨rfl, k5⟩
      have HK5a := Lib.hid (HK4.out.trans k5)
      clear k5
      go_wp2
      go_ret
      exact ⟨rfl, HK02.out.trans HK5a.out⟩
    | true =>
      have hlj := lightP_of hBY
      rw [hBY] at HLY
      clear hBY
      have HSM := Lib.hid (fun w' (k : Kept (fun _ => False) w2 w') => pSame_any x y xaa xpa xna yaa ypa yna xac xpc xnc yac ypc ync w' (HX.out w' k) (HY.out w' k) hli hlj)
      have HRS := Lib.hid (fun w' (k : Kept (fun _ => False) w2 w') => refSameP_any x y xaa xpa xna yaa ypa yna xac xpc xnc yac ypc ync w' (HX.out w' k) (HY.out w' k) hli hlj)
      have HCL := Lib.hid (fun w' (k : Kept (fun _ => False) w2 w') => pClone_any x xaa xpa xna xac xpc xnc w' (HX.out w' k) hli)
      have HSC := Lib.hid (fun w' (a1 a2 a3 : Option Addr) (c1 c2 c3 : Nat) (k : Kept (fun _ => False) w2 w') (h : PntAt w' x a1 c1 (.slice a2 x.h.pl.length c2) (.slice a3 x.h.nl.length c3)) => pSame_any x x xaa xpa xna a1 a2 a3 xac xpc xnc c1 c2 c3 w' (HX.out w' k) h hli hli)
      rw [sameP_self] at HSC
      have HKX := Lib.hid (fun w' (k : Kept (fun _ => False) w2 w') => (pKey_any x xaa xpa xna xac xpc xnc w' (HX.out w' k) hox hli).mono (fun e w'' h => key_to h))
      have HKY := Lib.hid (fun w' (k : Kept (fun _ => False) w2 w') => (pKey_any y yaa ypa yna yac ypc ync w' (HY.out w' k) hoy hlj).mono (fun e w'' h => key_to h))
      have HSX := Lib.hid (fun w' (k : Kept (fun _ => False) w2 w') => refSorted11_any xaa xac x.L w' (HX.out w' k).ps (by have := hli.len; omega))
      have HSY := Lib.hid (fun w' (k : Kept (fun _ => False) w2 w') => refSorted11_any yaa yac y.L w' (HY.out w' k).ps (by have := hlj.len; omega))
      have HEQ := Lib.hid (fun (ao bo : Option Addr) (c d : Nat) (w : World) (ha : PsAt w ao (sortP x.L)) (hb : PsAt w bo (sortP y.L)) => refSame11_any ao bo c d (sortP x.L) (sortP y.L) w ha hb (by rw [(sortP_perm x.L).length_eq]; have := hli.len; omega))
      obtain ⟨SB, hSB⟩ : ∃ b, b = sameL (sortP x.L) (sortP y.L) := ⟨_, rfl⟩
      rw [← hSB] at HEQ
      have HSB := Lib.hid hSB
      obtain ⟨BS, hBS⟩ : ∃ b, b = sameP x y := ⟨_, rfl⟩
      rw [← hBS] at HSM HRS
      have HNE : Hid (∀ w, (binOp .neq 4 (.bool BS) (.bool BS)).run Tryz.prog w = .ok (.bool false) w) := Lib.hid (fun w => by cases BS <;> kernel_rfl)
      rw [hvx] at HSM HRS HCL HSC HKX
      rw [hvy] at HSM HRS HKY
      clear hx hy hSB hBS hvx hvy hCX hCY
      go_enter Tryz.func4, Tryz.ntmps4
      go_upto_region 1 with fail
      rw [← HW2.out.1, ← HW2.out.2]
      go_wp2_with fail
      refine (HAW.out w2).mono ?_
      rintro e w3 ⟨rfl, k3⟩
      have HK3 := Lib.hid k3
      have HB3 := Lib.hid (HBX.out w3 k3)
      clear k3
      go_wp2_with (first
        | (refine wpList_load_row rfl 30 (.tmp 2) rfl q rfl 30 _ (0, 0) _ HB3.out.1 Tryz.underlying30 rfl HIX.out ?_)
        | fail)
      refine (HLX.out w3 HK3.out).mono ?_
      rintro e w4 ⟨rfl, k4⟩
      have HK4 := Lib.hid (HK3.out.trans k4)
      have HB4 := Lib.hid (HBX.out w4 HK4.out)
      clear k4
      go_wp2_with (first
        | (refine wpList_load_row rfl 30 (.tmp 3) rfl (q + 1) rfl 30 _ (0, 0) _ HB4.out.2 Tryz.underlying30 rfl HIY.out ?_)
        | (refine wpList_load_rowG rfl 30 (.tmp 3) rfl (q + 1) rfl 30 _ (0, 0) _ HB4.out.2 Tryz.underlying30 rfl HIY.out ?_)
        | fail)
      refine (HLY.out w4 HK4.out).mono ?_
      rintro e w5 ⟨rfl, k5⟩
      have HK5a := Lib.hid (HK4.out.trans k5)
      clear k5
      have HK5 : Hid (Kept (fun _ => False) w2 w5.drew) := Lib.hid (HK5a.out.trans ((Kept.refl _ _).drew))
      have HS5 := Lib.hid (HBX.out w5.drew HK5.out)
      go_upto_region 5 with fail
      refine AnyBut.start (S := fun w' => w'.heap[q]? = some (.cells CX 30 (0, 0)) ∧ w'.heap[q + 1]? = some (.cells CY 30 (0, 0))) (k := 14) (by kernel_rfl) ?_
      refine AnyBut.takeS (i := 0) (v := ?v1) rfl (by kernel_rfl) (Nat.le_of_eq (by kernel_rfl)) (by kernel_rfl) (by kernel_rfl) (fun _ _ _ h => h) (HS5.out) (Or.inl ⟨by kernel_rfl, ?hy1⟩) ?r1
      case hy1 =>
        intro w hSw
        try dsimp only at hSw
        refine exec_load_row 30 (.tmp 2) ?_ q ?_ 30 _ (0, 0) _ hSw.1 Tryz.underlying30 rfl HIX.out
        · rfl
        · rfl
      try simp only [Act.put, List.getElem_toArray, List.getElem_cons_zero, List.setIfInBounds_toArray, List.set_cons_zero, List.set_cons_succ]
      refine AnyBut.takeS (i := 1) (v := ?v2) rfl (by kernel_rfl) (Nat.le_of_eq (by kernel_rfl)) (by kernel_rfl) (by kernel_rfl) (fun _ _ _ h => h) (HS5.out) (Or.inl ⟨by kernel_rfl, ?hy2⟩) ?r2
      case hy2 =>
        intro w hSw
        try dsimp only at hSw
        refine exec_load_row 30 (.tmp 3) ?_ (q + 1) ?_ 30 _ (0, 0) _ hSw.2 Tryz.underlying30 rfl HIY.out
        · rfl
        · rfl
      try simp only [Act.put, List.getElem_toArray, List.getElem_cons_succ, List.getElem_cons_zero, List.setIfInBounds_toArray, List.set_cons_zero, List.set_cons_succ]
      refine AnyBut.takeS (i := 3) (v := ?v3) rfl (by kernel_rfl) (Nat.le_of_eq (by kernel_rfl)) (by kernel_rfl) (by kernel_rfl) (fun _ _ _ h => h) (HS5.out) (Or.inl ⟨by kernel_rfl, ?hy3⟩) ?r3
      case hy3 =>
        intro w hSw
        try dsimp only at hSw
        refine exec_load_row 30 (.tmp 2) ?_ q ?_ 30 _ (0, 0) _ hSw.1 Tryz.underlying30 rfl HIX.out
        · rfl
        · rfl
      try simp only [Act.put, List.getElem_toArray, List.getElem_cons_succ, List.getElem_cons_zero, List.setIfInBounds_toArray, List.set_cons_zero, List.set_cons_succ]
      refine AnyBut.takeS (i := 4) (v := ?v4) rfl (by kernel_rfl) (Nat.le_of_eq (by kernel_rfl)) (by kernel_rfl) (by kernel_rfl) (fun _ _ _ h => h) (HS5.out) (Or.inl ⟨by kernel_rfl, ?hy4⟩) ?r4
      case hy4 =>
        intro w hSw
        try dsimp only at hSw
        refine exec_load_row 30 (.tmp 3) ?_ (q + 1) ?_ 30 _ (0, 0) _ hSw.2 Tryz.underlying30 rfl HIY.out
        · rfl
        · rfl
      try simp only [Act.put, List.getElem_toArray, List.getElem_cons_succ, List.getElem_cons_zero, List.setIfInBounds_toArray, List.set_cons_zero, List.set_cons_succ]
      refine AnyBut.one (i := 2) (by kernel_rfl) rfl (fun K hK => ?_)
      go_simp
      go_wp2_with fail
      refine (HSM.out _ HK5.out).mono ?_
      rintro e w6 ⟨rfl, k2⟩
      have HKa := Lib.hid (HK5.out.trans k2)
      have HSa := Lib.hid (HBX.out w6 HKa.out)
      clear k2
      go_wp2
      refine hK.out _ _ (HSa.out) ?_
      clear hK K
      try simp only [Act.put, List.getElem_toArray, List.getElem_cons_succ, List.getElem_cons_zero, List.setIfInBounds_toArray, List.set_cons_zero, List.set_cons_succ]
      refine AnyBut.one (i := 5) (by kernel_rfl) rfl (fun K hK => ?_)
      go_simp
      go_wp2_with fail
      refine (HRS.out _ HKa.out).mono ?_
      rintro e w7 ⟨rfl, k5⟩
      have HKb := Lib.hid (HKa.out.trans k5)
      have HSb := Lib.hid (HBX.out w7 HKb.out)
      clear k5
      go_wp2
      refine hK.out _ _ (HSb.out) ?_
      clear hK K
      try simp only [Act.put, List.getElem_toArray, List.getElem_cons_succ, List.getElem_cons_zero, List.setIfInBounds_toArray, List.set_cons_zero, List.set_cons_succ]
      refine AnyBut.takeS (i := 6) (v := ?v5) rfl (by kernel_rfl) (Nat.le_of_eq (by kernel_rfl)) (by kernel_rfl) (by kernel_rfl) (fun _ _ _ h => h) (HSb.out) (Or.inl ⟨by kernel_rfl, ?hy5⟩) ?r5
      case hy5 =>
        intro w hSw
        try dsimp only at hSw
        have hne := HNE.out w
        go_simp
        exact rfl
      try simp only [Act.put, List.getElem_toArray, List.getElem_cons_succ, List.getElem_cons_zero, List.setIfInBounds_toArray, List.set_cons_zero, List.set_cons_succ]
      refine AnyBut.takeS (i := 7) (v := ?v6) rfl (by kernel_rfl) (Nat.le_of_eq (by kernel_rfl)) (by kernel_rfl) (by kernel_rfl) (fun _ _ _ h => h) (HSb.out) (Or.inl ⟨by kernel_rfl, ?hy6⟩) ?r6
      case hy6 =>
        intro w hSw
        try dsimp only at hSw
        go_simp
        try with_reducible rfl
      try simp only [Act.put, List.getElem_toArray, List.getElem_cons_succ, List.getElem_cons_zero, List.setIfInBounds_toArray, List.set_cons_zero, List.set_cons_succ]
      refine AnyBut.takeS (i := 8) (v := ?v7) rfl (by kernel_rfl) (Nat.le_of_eq (by kernel_rfl)) (by kernel_rfl) (by kernel_rfl) (fun _ _ _ h => h) (HSb.out) (Or.inl ⟨by kernel_rfl, ?hy7⟩) ?r7
      case hy7 =>
        intro w hSw
        try dsimp only at hSw
        refine exec_load_row 30 (.tmp 2) ?_ q ?_ 30 _ (0, 0) _ hSw.1 Tryz.underlying30 rfl HIX.out
        · rfl
        · rfl
      try simp only [Act.put, List.getElem_toArray, List.getElem_cons_succ, List.getElem_cons_zero, List.setIfInBounds_toArray, List.set_cons_zero, List.set_cons_succ]
      refine AnyBut.takeS (i := 9) (v := ?v8) rfl (by kernel_rfl) (Nat.le_of_eq (by kernel_rfl)) (by kernel_rfl) (by kernel_rfl) (fun _ _ _ h => h) (HSb.out) (Or.inl ⟨by kernel_rfl, ?hy8⟩) ?r8
      case hy8 =>
        intro w hSw
        try dsimp only at hSw
        refine exec_load_row 30 (.tmp 2) ?_ q ?_ 30 _ (0, 0) _ hSw.1 Tryz.underlying30 rfl HIX.out
        · rfl
        · rfl
      try simp only [Act.put, List.getElem_toArray, List.getElem_cons_succ, List.getElem_cons_zero, List.setIfInBounds_toArray, List.set_cons_zero, List.set_cons_succ]
      refine AnyBut.one (i := 10) (by kernel_rfl) rfl (fun K hK => ?_)
      go_simp
      go_wp2_with fail
      refine (HCL.out _ HKb.out).mono ?_
      rintro e w8 ⟨a1, c1, a2, c2, a3, c3, rfl, m1, m2, m3⟩
      have HK10 := Lib.hid (HKb.out.trans m1.kept)
      have HS10 := Lib.hid (HBX.out w8 HK10.out)
      have HSC2 := Lib.hid (HSC.out w8 a1 a2 a3 c1 c2 c3 HK10.out ⟨m1.at_, own_capW m1.own, ⟨m2.at_, m3.at_⟩⟩)
      clear m1 m2 m3
      go_wp2
      refine hK.out _ _ (HS10.out) ?_
      clear hK K
      try simp only [Act.put, List.getElem_toArray, List.getElem_cons_succ, List.getElem_cons_zero, List.setIfInBounds_toArray, List.set_cons_zero, List.set_cons_succ]
      refine AnyBut.one (i := 11) (by kernel_rfl) rfl (fun K hK => ?_)
      go_simp
      go_wp2_with fail
      refine (HSC2.out).mono ?_
      rintro e w9 ⟨rfl, k11⟩
      have HK11 := Lib.hid (HK10.out.trans k11)
      have HS11 := Lib.hid (HBX.out w9 HK11.out)
      clear k11
      go_wp2
      refine hK.out _ _ (HS11.out) ?_
      clear hK K
      try simp only [Act.put, List.getElem_toArray, List.getElem_cons_succ, List.getElem_cons_zero, List.setIfInBounds_toArray, List.set_cons_zero, List.set_cons_succ]
      refine AnyBut.takeS (i := 12) (v := ?v9) rfl (by kernel_rfl) (Nat.le_of_eq (by kernel_rfl)) (by kernel_rfl) (by kernel_rfl) (fun _ _ _ h => h) (HS11.out) (Or.inl ⟨by kernel_rfl, ?hy9⟩) ?r9
      case hy9 =>
        intro w hSw
        try dsimp only at hSw
        go_simp
        try with_reducible rfl
      try simp only [Act.put, List.getElem_toArray, List.getElem_cons_succ, List.getElem_cons_zero, List.setIfInBounds_toArray, List.set_cons_zero, List.set_cons_succ]
      refine AnyBut.takeS (i := 13) (v := ?v10) rfl (by kernel_rfl) (Nat.le_of_eq (by kernel_rfl)) (by kernel_rfl) (by kernel_rfl) (fun _ _ _ h => h) (HS11.out) (Or.inl ⟨by kernel_rfl, ?hy10⟩) ?r10
      case hy10 =>
        intro w hSw
        try dsimp only at hSw
        go_simp
        try with_reducible rfl
      try simp only [Act.put, List.getElem_toArray, List.getElem_cons_succ, List.getElem_cons_zero, List.setIfInBounds_toArray, List.set_cons_zero, List.set_cons_succ]
      refine AnyBut.done (by kernel_rfl) ?_
      have HB9 := Lib.hid (HBX.out w9 HK11.out)
      go_wp2_with (first
        | (refine wpList_load_row rfl 30 (.tmp 2) rfl q rfl 30 _ (0, 0) _ HB9.out.1 Tryz.underlying30 rfl HIX.out ?_)
        | fail)
      refine (HKX.out w9 HK11.out).mono ?_
      rintro e w10 ⟨s1, n1, rfl, k10, p1⟩
      have HK10 := Lib.hid (HK11.out.trans k10)
      have HB10 := Lib.hid (HBX.out w10 HK10.out)
      have HP1 := Lib.hid p1
      clear k10 p1
      go_wp2_with (first
        | (refine wpList_load_row rfl 30 (.tmp 3) rfl (q + 1) rfl 30 _ (0, 0) _ HB10.out.2 Tryz.underlying30 rfl HIY.out ?_)
        | fail)
      refine (HKY.out w10 HK10.out).mono ?_
      rintro e w11 ⟨s2, n2, rfl, k11, p2⟩
      have HKc := Lib.hid (HK10.out.trans k11)
      have HP2 := Lib.hid p2
      clear k11 p2
      by_cases h1 : n1 = 0
      case neg =>
        have q1 : (n1 != 0) = true := by simp [bne, h1]
        clear h1
        go_wp2
        go_ret
        exact ⟨rfl, HK02.out.trans HKc.out⟩
      subst h1
      by_cases h2 : n2 = 0
      case neg =>
        have q1 : (n2 != 0) = true := by simp [bne, h2]
        clear h2
        go_wp2
        go_ret
        exact ⟨rfl, HK02.out.trans HKc.out⟩
      subst h2
      obtain ⟨cx, e1⟩ := HP1.out rfl
      obtain ⟨cy, e2⟩ := HP2.out rfl
      have HKA : Hid ((s1.toList == s2.toList) = alikeP x y) := Lib.hid (by rw [e1, e2]; exact key_alike (right_of cx) (right_of cy))
      clear cx cy e1 e2
      have HK11 : Hid (Kept (fun _ => False) w2 w11.drew) := Lib.hid (HKc.out.trans ((Kept.refl _ _).drew))
      have HS11 := Lib.hid (HSS.out w11.drew HK11.out)
      cases hnm : (x.name.toList == y.name.toList) with
      | false =>
        have hrr : (s1.toList == s2.toList) = false := by rw [HKA.out]; unfold alikeP; rw [hnm]; simp
        go_upto_region 11 with fail
        refine AnyBut.start (S := fun w' => (w'.cell? ⟨q, 0, none⟩ = some (.string x.name) ∧ w'.cell? ⟨q, 1, none⟩ = some (.slice xaa x.L.length xac) ∧ w'.cell? ⟨q, 2, none⟩ = some (.int .i64 x.kind) ∧ w'.cell? ⟨q, 3, none⟩ = some (.int .i64 x.temp) ∧ w'.cell? ⟨q, 4, none⟩ = some (.bool x.mono)) ∧ (w'.cell? ⟨q + 1, 0, none⟩ = some (.string y.name) ∧ w'.cell? ⟨q + 1, 1, none⟩ = some (.slice yaa y.L.length yac) ∧ w'.cell? ⟨q + 1, 2, none⟩ = some (.int .i64 y.kind) ∧ w'.cell? ⟨q + 1, 3, none⟩ = some (.int .i64 y.temp) ∧ w'.cell? ⟨q + 1, 4, none⟩ = some (.bool y.mono))) (k := 36) (by kernel_rfl) ?_
        refine AnyBut.takeS (i := 0) (v := ?v11) rfl (by kernel_rfl) (Nat.le_of_eq (by kernel_rfl)) (by kernel_rfl) (by kernel_rfl) (fun _ _ _ h => h) (HS11.out) (Or.inl ⟨by kernel_rfl, ?hy11⟩) ?r11
        case hy11 =>
          intro w hSw
          try dsimp only at hSw
          go_simp
          first | (obtain ⟨⟨y0, y1, y2, y3, y4⟩, z0, z1, z2, z3, z4⟩ := hSw; go_simp) | skip
          try with_reducible rfl
        try simp only [Act.put, List.getElem_toArray, List.getElem_cons_zero, List.setIfInBounds_toArray, List.set_cons_zero, List.set_cons_succ]
        refine AnyBut.takeS (i := 1) (v := ?v12) rfl (by kernel_rfl) (Nat.le_of_eq (by kernel_rfl)) (by kernel_rfl) (by kernel_rfl) (fun _ _ _ h => h) (HS11.out) (Or.inl ⟨by kernel_rfl, ?hy12⟩) ?r12
        case hy12 =>
          intro w hSw
          try dsimp only at hSw
          go_simp
          first | (obtain ⟨⟨y0, y1, y2, y3, y4⟩, z0, z1, z2, z3, z4⟩ := hSw; go_simp) | skip
          try with_reducible rfl
        try simp only [Act.put, List.getElem_toArray, List.getElem_cons_succ, List.getElem_cons_zero, List.setIfInBounds_toArray, List.set_cons_zero, List.set_cons_succ]
        refine AnyBut.takeS (i := 2) (v := ?v13) rfl (by kernel_rfl) (Nat.le_of_eq (by kernel_rfl)) (by kernel_rfl) (by kernel_rfl) (fun _ _ _ h => h) (HS11.out) (Or.inl ⟨by kernel_rfl, ?hy13⟩) ?r13
        case hy13 =>
          intro w hSw
          try dsimp only at hSw
          go_simp
          first | (obtain ⟨⟨y0, y1, y2, y3, y4⟩, z0, z1, z2, z3, z4⟩ := hSw; go_simp) | skip
          try with_reducible rfl
        try simp only [Act.put, List.getElem_toArray, List.getElem_cons_succ, List.getElem_cons_zero, List.setIfInBounds_toArray, List.set_cons_zero, List.set_cons_succ]
        refine AnyBut.takeS (i := 3) (v := ?v14) rfl (by kernel_rfl) (Nat.le_of_eq (by kernel_rfl)) (by kernel_rfl) (by kernel_rfl) (fun _ _ _ h => h) (HS11.out) (Or.inl ⟨by kernel_rfl, ?hy14⟩) ?r14
        case hy14 =>
          intro w hSw
          try dsimp only at hSw
          go_simp
          first | (obtain ⟨⟨y0, y1, y2, y3, y4⟩, z0, z1, z2, z3, z4⟩ := hSw; go_simp) | skip
          try with_reducible rfl
        try simp only [Act.put, List.getElem_toArray, List.getElem_cons_succ, List.getElem_cons_zero, List.setIfInBounds_toArray, List.set_cons_zero, List.set_cons_succ]
        refine AnyBut.takeS (i := 4) (v := ?v15) rfl (by kernel_rfl) (Nat.le_of_eq (by kernel_rfl)) (by kernel_rfl) (by kernel_rfl) (fun _ _ _ h => h) (HS11.out) (Or.inl ⟨by kernel_rfl, ?hy15⟩) ?r15
        case hy15 =>
          intro w hSw
          try dsimp only at hSw
          go_simp
          first | (obtain ⟨⟨y0, y1, y2, y3, y4⟩, z0, z1, z2, z3, z4⟩ := hSw; go_simp) | skip
          try with_reducible rfl
        try simp only [Act.put, List.getElem_toArray, List.getElem_cons_succ, List.getElem_cons_zero, List.setIfInBounds_toArray, List.set_cons_zero, List.set_cons_succ]
        refine AnyBut.takeS (i := 5) (v := ?v16) rfl (by kernel_rfl) (Nat.le_of_eq (by kernel_rfl)) (by kernel_rfl) (by kernel_rfl) (fun _ _ _ h => h) (HS11.out) (Or.inl ⟨by kernel_rfl, ?hy16⟩) ?r16
        case hy16 =>
          intro w hSw
          try dsimp only at hSw
          go_simp
          first | (obtain ⟨⟨y0, y1, y2, y3, y4⟩, z0, z1, z2, z3, z4⟩ := hSw; go_simp) | skip
          try with_reducible rfl
        try simp only [Act.put, List.getElem_toArray, List.getElem_cons_succ, List.getElem_cons_zero, List.setIfInBounds_toArray, List.set_cons_zero, List.set_cons_succ]
        refine AnyBut.takeS (i := 6) (v := undef) rfl (by kernel_rfl) (Nat.le_of_eq (by kernel_rfl)) (by kernel_rfl) (by kernel_rfl) (fun _ _ _ h => h) (HS11.out) (Or.inr ⟨by kernel_rfl, rfl⟩) ?r17
        try simp only [Act.put, List.getElem_toArray, List.getElem_cons_succ, List.getElem_cons_zero, List.setIfInBounds_toArray, List.set_cons_zero, List.set_cons_succ]
        refine AnyBut.takeS (i := 7) (v := undef) rfl (by kernel_rfl) (Nat.le_of_eq (by kernel_rfl)) (by kernel_rfl) (by kernel_rfl) (fun _ _ _ h => h) (HS11.out) (Or.inr ⟨by kernel_rfl, rfl⟩) ?r18
        try simp only [Act.put, List.getElem_toArray, List.getElem_cons_succ, List.getElem_cons_zero, List.setIfInBounds_toArray, List.set_cons_zero, List.set_cons_succ]
        refine AnyBut.takeS (i := 8) (v := undef) rfl (by kernel_rfl) (Nat.le_of_eq (by kernel_rfl)) (by kernel_rfl) (by kernel_rfl) (fun _ _ _ h => h) (HS11.out) (Or.inr ⟨by kernel_rfl, rfl⟩) ?r19
        try simp only [Act.put, List.getElem_toArray, List.getElem_cons_succ, List.getElem_cons_zero, List.setIfInBounds_toArray, List.set_cons_zero, List.set_cons_succ]
        refine AnyBut.takeS (i := 9) (v := undef) rfl (by kernel_rfl) (Nat.le_of_eq (by kernel_rfl)) (by kernel_rfl) (by kernel_rfl) (fun _ _ _ h => h) (HS11.out) (Or.inr ⟨by kernel_rfl, rfl⟩) ?r20
        try simp only [Act.put, List.getElem_toArray, List.getElem_cons_succ, List.getElem_cons_zero, List.setIfInBounds_toArray, List.set_cons_zero, List.set_cons_succ]
        refine AnyBut.takeS (i := 10) (v := undef) rfl (by kernel_rfl) (Nat.le_of_eq (by kernel_rfl)) (by kernel_rfl) (by kernel_rfl) (fun _ _ _ h => h) (HS11.out) (Or.inr ⟨by kernel_rfl, rfl⟩) ?r21
        try simp only [Act.put, List.getElem_toArray, List.getElem_cons_succ, List.getElem_cons_zero, List.setIfInBounds_toArray, List.set_cons_zero, List.set_cons_succ]
        refine AnyBut.takeS (i := 11) (v := ?v22) rfl (by kernel_rfl) (Nat.le_of_eq (by kernel_rfl)) (by kernel_rfl) (by kernel_rfl) (fun _ _ _ h => h) (HS11.out) (Or.inl ⟨by kernel_rfl, ?hy22⟩) ?r22
        case hy22 =>
          intro w hSw
          try dsimp only at hSw
          go_simp
          first | (obtain ⟨⟨y0, y1, y2, y3, y4⟩, z0, z1, z2, z3, z4⟩ := hSw; go_simp) | skip
          try with_reducible rfl
        try simp only [Act.put, List.getElem_toArray, List.getElem_cons_succ, List.getElem_cons_zero, List.setIfInBounds_toArray, List.set_cons_zero, List.set_cons_succ]
        refine AnyBut.takeS (i := 12) (v := ?v23) rfl (by kernel_rfl) (Nat.le_of_eq (by kernel_rfl)) (by kernel_rfl) (by kernel_rfl) (fun _ _ _ h => h) (HS11.out) (Or.inl ⟨by kernel_rfl, ?hy23⟩) ?r23
        case hy23 =>
          intro w hSw
          try dsimp only at hSw
          go_simp
          first | (obtain ⟨⟨y0, y1, y2, y3, y4⟩, z0, z1, z2, z3, z4⟩ := hSw; go_simp) | skip
          try with_reducible rfl
        try simp only [Act.put, List.getElem_toArray, List.getElem_cons_succ, List.getElem_cons_zero, List.setIfInBounds_toArray, List.set_cons_zero, List.set_cons_succ]
        refine AnyBut.takeS (i := 13) (v := undef) rfl (by kernel_rfl) (Nat.le_of_eq (by kernel_rfl)) (by kernel_rfl) (by kernel_rfl) (fun _ _ _ h => h) (HS11.out) (Or.inr ⟨by kernel_rfl, rfl⟩) ?r24
        try simp only [Act.put, List.getElem_toArray, List.getElem_cons_succ, List.getElem_cons_zero, List.setIfInBounds_toArray, List.set_cons_zero, List.set_cons_succ]
        refine AnyBut.takeS (i := 14) (v := undef) rfl (by kernel_rfl) (Nat.le_of_eq (by kernel_rfl)) (by kernel_rfl) (by kernel_rfl) (fun _ _ _ h => h) (HS11.out) (Or.inr ⟨by kernel_rfl, rfl⟩) ?r25
        try simp only [Act.put, List.getElem_toArray, List.getElem_cons_succ, List.getElem_cons_zero, List.setIfInBounds_toArray, List.set_cons_zero, List.set_cons_succ]
        refine AnyBut.takeS (i := 15) (v := undef) rfl (by kernel_rfl) (Nat.le_of_eq (by kernel_rfl)) (by kernel_rfl) (by kernel_rfl) (fun _ _ _ h => h) (HS11.out) (Or.inr ⟨by kernel_rfl, rfl⟩) ?r26
        try simp only [Act.put, List.getElem_toArray, List.getElem_cons_succ, List.getElem_cons_zero, List.setIfInBounds_toArray, List.set_cons_zero, List.set_cons_succ]
        refine AnyBut.takeS (i := 16) (v := undef) rfl (by kernel_rfl) (Nat.le_of_eq (by kernel_rfl)) (by kernel_rfl) (by kernel_rfl) (fun _ _ _ h => h) (HS11.out) (Or.inr ⟨by kernel_rfl, rfl⟩) ?r27
        try simp only [Act.put, List.getElem_toArray, List.getElem_cons_succ, List.getElem_cons_zero, List.setIfInBounds_toArray, List.set_cons_zero, List.set_cons_succ]
        refine AnyBut.takeS (i := 17) (v := undef) rfl (by kernel_rfl) (Nat.le_of_eq (by kernel_rfl)) (by kernel_rfl) (by kernel_rfl) (fun _ _ _ h => h) (HS11.out) (Or.inr ⟨by kernel_rfl, rfl⟩) ?r28
        try simp only [Act.put, List.getElem_toArray, List.getElem_cons_succ, List.getElem_cons_zero, List.setIfInBounds_toArray, List.set_cons_zero, List.set_cons_succ]
        refine AnyBut.takeS (i := 18) (v := ?v29) rfl (by kernel_rfl) (Nat.le_of_eq (by kernel_rfl)) (by kernel_rfl) (by kernel_rfl) (fun _ _ _ h => h) (HS11.out) (Or.inl ⟨by kernel_rfl, ?hy29⟩) ?r29
        case hy29 =>
          intro w hSw
          try dsimp only at hSw
          go_simp
          first | (obtain ⟨⟨y0, y1, y2, y3, y4⟩, z0, z1, z2, z3, z4⟩ := hSw; go_simp) | skip
          try with_reducible rfl
        try simp only [Act.put, List.getElem_toArray, List.getElem_cons_succ, List.getElem_cons_zero, List.setIfInBounds_toArray, List.set_cons_zero, List.set_cons_succ]
        refine AnyBut.takeS (i := 19) (v := ?v30) rfl (by kernel_rfl) (Nat.le_of_eq (by kernel_rfl)) (by kernel_rfl) (by kernel_rfl) (fun _ _ _ h => h) (HS11.out) (Or.inl ⟨by kernel_rfl, ?hy30⟩) ?r30
        case hy30 =>
          intro w hSw
          try dsimp only at hSw
          go_simp
          first | (obtain ⟨⟨y0, y1, y2, y3, y4⟩, z0, z1, z2, z3, z4⟩ := hSw; go_simp) | skip
          try with_reducible rfl
        try simp only [Act.put, List.getElem_toArray, List.getElem_cons_succ, List.getElem_cons_zero, List.setIfInBounds_toArray, List.set_cons_zero, List.set_cons_succ]
        refine AnyBut.takeS (i := 20) (v := undef) rfl (by kernel_rfl) (Nat.le_of_eq (by kernel_rfl)) (by kernel_rfl) (by kernel_rfl) (fun _ _ _ h => h) (HS11.out) (Or.inr ⟨by kernel_rfl, rfl⟩) ?r31
        try simp only [Act.put, List.getElem_toArray, List.getElem_cons_succ, List.getElem_cons_zero, List.setIfInBounds_toArray, List.set_cons_zero, List.set_cons_succ]
        refine AnyBut.takeS (i := 21) (v := undef) rfl (by kernel_rfl) (Nat.le_of_eq (by kernel_rfl)) (by kernel_rfl) (by kernel_rfl) (fun _ _ _ h => h) (HS11.out) (Or.inr ⟨by kernel_rfl, rfl⟩) ?r32
        try simp only [Act.put, List.getElem_toArray, List.getElem_cons_succ, List.getElem_cons_zero, List.setIfInBounds_toArray, List.set_cons_zero, List.set_cons_succ]
        refine AnyBut.takeS (i := 22) (v := undef) rfl (by kernel_rfl) (Nat.le_of_eq (by kernel_rfl)) (by kernel_rfl) (by kernel_rfl) (fun _ _ _ h => h) (HS11.out) (Or.inr ⟨by kernel_rfl, rfl⟩) ?r33
        try simp only [Act.put, List.getElem_toArray, List.getElem_cons_succ, List.getElem_cons_zero, List.setIfInBounds_toArray, List.set_cons_zero, List.set_cons_succ]
        refine AnyBut.takeS (i := 23) (v := undef) rfl (by kernel_rfl) (Nat.le_of_eq (by kernel_rfl)) (by kernel_rfl) (by kernel_rfl) (fun _ _ _ h => h) (HS11.out) (Or.inr ⟨by kernel_rfl, rfl⟩) ?r34
        try simp only [Act.put, List.getElem_toArray, List.getElem_cons_succ, List.getElem_cons_zero, List.setIfInBounds_toArray, List.set_cons_zero, List.set_cons_succ]
        refine AnyBut.takeS (i := 24) (v := undef) rfl (by kernel_rfl) (Nat.le_of_eq (by kernel_rfl)) (by kernel_rfl) (by kernel_rfl) (fun _ _ _ h => h) (HS11.out) (Or.inr ⟨by kernel_rfl, rfl⟩) ?r35
        try simp only [Act.put, List.getElem_toArray, List.getElem_cons_succ, List.getElem_cons_zero, List.setIfInBounds_toArray, List.set_cons_zero, List.set_cons_succ]
        refine AnyBut.takeS (i := 25) (v := ?v36) rfl (by kernel_rfl) (Nat.le_of_eq (by kernel_rfl)) (by kernel_rfl) (by kernel_rfl) (fun _ _ _ h => h) (HS11.out) (Or.inl ⟨by kernel_rfl, ?hy36⟩) ?r36
        case hy36 =>
          intro w hSw
          try dsimp only at hSw
          go_simp
          first | (obtain ⟨⟨y0, y1, y2, y3, y4⟩, z0, z1, z2, z3, z4⟩ := hSw; go_simp) | skip
          try with_reducible rfl
        try simp only [Act.put, List.getElem_toArray, List.getElem_cons_succ, List.getElem_cons_zero, List.setIfInBounds_toArray, List.set_cons_zero, List.set_cons_succ]
        refine AnyBut.takeS (i := 26) (v := ?v37) rfl (by kernel_rfl) (Nat.le_of_eq (by kernel_rfl)) (by kernel_rfl) (by kernel_rfl) (fun _ _ _ h => h) (HS11.out) (Or.inl ⟨by kernel_rfl, ?hy37⟩) ?r37
        case hy37 =>
          intro w hSw
          try dsimp only at hSw
          go_simp
          first | (obtain ⟨⟨y0, y1, y2, y3, y4⟩, z0, z1, z2, z3, z4⟩ := hSw; go_simp) | skip
          try with_reducible rfl
        try simp only [Act.put, List.getElem_toArray, List.getElem_cons_succ, List.getElem_cons_zero, List.setIfInBounds_toArray, List.set_cons_zero, List.set_cons_succ]
        refine AnyBut.takeS (i := 27) (v := undef) rfl (by kernel_rfl) (Nat.le_of_eq (by kernel_rfl)) (by kernel_rfl) (by kernel_rfl) (fun _ _ _ h => h) (HS11.out) (Or.inr ⟨by kernel_rfl, rfl⟩) ?r38
        try simp only [Act.put, List.getElem_toArray, List.getElem_cons_succ, List.getElem_cons_zero, List.setIfInBounds_toArray, List.set_cons_zero, List.set_cons_succ]
        refine AnyBut.takeS (i := 28) (v := undef) rfl (by kernel_rfl) (Nat.le_of_eq (by kernel_rfl)) (by kernel_rfl) (by kernel_rfl) (fun _ _ _ h => h) (HS11.out) (Or.inr ⟨by kernel_rfl, rfl⟩) ?r39
        try simp only [Act.put, List.getElem_toArray, List.getElem_cons_succ, List.getElem_cons_zero, List.setIfInBounds_toArray, List.set_cons_zero, List.set_cons_succ]
        refine AnyBut.takeS (i := 29) (v := undef) rfl (by kernel_rfl) (Nat.le_of_eq (by kernel_rfl)) (by kernel_rfl) (by kernel_rfl) (fun _ _ _ h => h) (HS11.out) (Or.inr ⟨by kernel_rfl, rfl⟩) ?r40
        try simp only [Act.put, List.getElem_toArray, List.getElem_cons_succ, List.getElem_cons_zero, List.setIfInBounds_toArray, List.set_cons_zero, List.set_cons_succ]
        refine AnyBut.takeS (i := 30) (v := undef) rfl (by kernel_rfl) (Nat.le_of_eq (by kernel_rfl)) (by kernel_rfl) (by kernel_rfl) (fun _ _ _ h => h) (HS11.out) (Or.inr ⟨by kernel_rfl, rfl⟩) ?r41
        try simp only [Act.put, List.getElem_toArray, List.getElem_cons_succ, List.getElem_cons_zero, List.setIfInBounds_toArray, List.set_cons_zero, List.set_cons_succ]
        refine AnyBut.takeS (i := 31) (v := undef) rfl (by kernel_rfl) (Nat.le_of_eq (by kernel_rfl)) (by kernel_rfl) (by kernel_rfl) (fun _ _ _ h => h) (HS11.out) (Or.inr ⟨by kernel_rfl, rfl⟩) ?r42
        try simp only [Act.put, List.getElem_toArray, List.getElem_cons_succ, List.getElem_cons_zero, List.setIfInBounds_toArray, List.set_cons_zero, List.set_cons_succ]
        refine AnyBut.takeS (i := 32) (v := undef) rfl (by kernel_rfl) (Nat.le_of_eq (by kernel_rfl)) (by kernel_rfl) (by kernel_rfl) (fun _ _ _ h => h) (HS11.out) (Or.inr ⟨by kernel_rfl, rfl⟩) ?r43
        try simp only [Act.put, List.getElem_toArray, List.getElem_cons_succ, List.getElem_cons_zero, List.setIfInBounds_toArray, List.set_cons_zero, List.set_cons_succ]
        refine AnyBut.takeS (i := 33) (v := undef) rfl (by kernel_rfl) (Nat.le_of_eq (by kernel_rfl)) (by kernel_rfl) (by kernel_rfl) (fun _ _ _ h => h) (HS11.out) (Or.inr ⟨by kernel_rfl, rfl⟩) ?r44
        try simp only [Act.put, List.getElem_toArray, List.getElem_cons_succ, List.getElem_cons_zero, List.setIfInBounds_toArray, List.set_cons_zero, List.set_cons_succ]
        refine AnyBut.takeS (i := 34) (v := ?v45) rfl (by kernel_rfl) (Nat.le_of_eq (by kernel_rfl)) (by kernel_rfl) (by kernel_rfl) (fun _ _ _ h => h) (HS11.out) (Or.inl ⟨by kernel_rfl, ?hy45⟩) ?r45
        case hy45 =>
          intro w hSw
          try dsimp only at hSw
          go_simp
          first | (obtain ⟨⟨y0, y1, y2, y3, y4⟩, z0, z1, z2, z3, z4⟩ := hSw; go_simp) | skip
          try with_reducible rfl
        try simp only [Act.put, List.getElem_toArray, List.getElem_cons_succ, List.getElem_cons_zero, List.setIfInBounds_toArray, List.set_cons_zero, List.set_cons_succ]
        refine AnyBut.takeS (i := 35) (v := ?v46) rfl (by kernel_rfl) (Nat.le_of_eq (by kernel_rfl)) (by kernel_rfl) (by kernel_rfl) (fun _ _ _ h => h) (HS11.out) (Or.inl ⟨by kernel_rfl, ?hy46⟩) ?r46
        case hy46 =>
          intro w hSw
          try dsimp only at hSw
          go_simp
          first | (obtain ⟨⟨y0, y1, y2, y3, y4⟩, z0, z1, z2, z3, z4⟩ := hSw; go_simp) | skip
          try with_reducible rfl
        try simp only [Act.put, List.getElem_toArray, List.getElem_cons_succ, List.getElem_cons_zero, List.setIfInBounds_toArray, List.set_cons_zero, List.set_cons_succ]
        refine AnyBut.done (by kernel_rfl) ?_
        go_wp2
        go_ret
        exact ⟨rfl, HK02.out.trans HK11.out⟩
      | true =>
        cases hbk : (x.kind == y.kind) with
        | false =>
          have hrr : (s1.toList == s2.toList) = false := by rw [HKA.out]; unfold alikeP; rw [hbk]; simp
          go_upto_region 11 with fail
          refine AnyBut.start (S := fun w' => (w'.cell? ⟨q, 0, none⟩ = some (.string x.name) ∧ w'.cell? ⟨q, 1, none⟩ = some (.slice xaa x.L.length xac) ∧ w'.cell? ⟨q, 2, none⟩ = some (.int .i64 x.kind) ∧ w'.cell? ⟨q, 3, none⟩ = some (.int .i64 x.temp) ∧ w'.cell? ⟨q, 4, none⟩ = some (.bool x.mono)) ∧ (w'.cell? ⟨q + 1, 0, none⟩ = some (.string y.name) ∧ w'.cell? ⟨q + 1, 1, none⟩ = some (.slice yaa y.L.length yac) ∧ w'.cell? ⟨q + 1, 2, none⟩ = some (.int .i64 y.kind) ∧ w'.cell? ⟨q + 1, 3, none⟩ = some (.int .i64 y.temp) ∧ w'.cell? ⟨q + 1, 4, none⟩ = some (.bool y.mono))) (k := 36) (by kernel_rfl) ?_
          refine AnyBut.takeS (i := 0) (v := ?v47) rfl (by kernel_rfl) (Nat.le_of_eq (by kernel_rfl)) (by kernel_rfl) (by kernel_rfl) (fun _ _ _ h => h) (HS11.out) (Or.inl ⟨by kernel_rfl, ?hy47⟩) ?r47
          case hy47 =>
            intro w hSw
            try dsimp only at hSw
            go_simp
            first | (obtain ⟨⟨y0, y1, y2, y3, y4⟩, z0, z1, z2, z3, z4⟩ := hSw; go_simp) | skip
            try with_reducible rfl
          try simp only [Act.put, List.getElem_toArray, List.getElem_cons_zero, List.setIfInBounds_toArray, List.set_cons_zero, List.set_cons_succ]
          refine AnyBut.takeS (i := 1) (v := ?v48) rfl (by kernel_rfl) (Nat.le_of_eq (by kernel_rfl)) (by kernel_rfl) (by kernel_rfl) (fun _ _ _ h => h) (HS11.out) (Or.inl ⟨by kernel_rfl, ?hy48⟩) ?r48
          case hy48 =>
            intro w hSw
            try dsimp only at hSw
            go_simp
            first | (obtain ⟨⟨y0, y1, y2, y3, y4⟩, z0, z1, z2, z3, z4⟩ := hSw; go_simp) | skip
            try with_reducible rfl
          try simp only [Act.put, List.getElem_toArray, List.getElem_cons_succ, List.getElem_cons_zero, List.setIfInBounds_toArray, List.set_cons_zero, List.set_cons_succ]
          refine AnyBut.takeS (i := 2) (v := ?v49) rfl (by kernel_rfl) (Nat.le_of_eq (by kernel_rfl)) (by kernel_rfl) (by kernel_rfl) (fun _ _ _ h => h) (HS11.out) (Or.inl ⟨by kernel_rfl, ?hy49⟩) ?r49
          case hy49 =>
            intro w hSw
            try dsimp only at hSw
            go_simp
            first | (obtain ⟨⟨y0, y1, y2, y3, y4⟩, z0, z1, z2, z3, z4⟩ := hSw; go_simp) | skip
            try with_reducible rfl
          try simp only [Act.put, List.getElem_toArray, List.getElem_cons_succ, List.getElem_cons_zero, List.setIfInBounds_toArray, List.set_cons_zero, List.set_cons_succ]
          refine AnyBut.takeS (i := 3) (v := ?v50) rfl (by kernel_rfl) (Nat.le_of_eq (by kernel_rfl)) (by kernel_rfl) (by kernel_rfl) (fun _ _ _ h => h) (HS11.out) (Or.inl ⟨by kernel_rfl, ?hy50⟩) ?r50
          case hy50 =>
            intro w hSw
            try dsimp only at hSw
            go_simp
            first | (obtain ⟨⟨y0, y1, y2, y3, y4⟩, z0, z1, z2, z3, z4⟩ := hSw; go_simp) | skip
            try with_reducible rfl
          try simp only [Act.put, List.getElem_toArray, List.getElem_cons_succ, List.getElem_cons_zero, List.setIfInBounds_toArray, List.set_cons_zero, List.set_cons_succ]
          refine AnyBut.takeS (i := 4) (v := ?v51) rfl (by kernel_rfl) (Nat.le_of_eq (by kernel_rfl)) (by kernel_rfl) (by kernel_rfl) (fun _ _ _ h => h) (HS11.out) (Or.inl ⟨by kernel_rfl, ?hy51⟩) ?r51
          case hy51 =>
            intro w hSw
            try dsimp only at hSw
            go_simp
            first | (obtain ⟨⟨y0, y1, y2, y3, y4⟩, z0, z1, z2, z3, z4⟩ := hSw; go_simp) | skip
            try with_reducible rfl
          try simp only [Act.put, List.getElem_toArray, List.getElem_cons_succ, List.getElem_cons_zero, List.setIfInBounds_toArray, List.set_cons_zero, List.set_cons_succ]
          refine AnyBut.takeS (i := 5) (v := ?v52) rfl (by kernel_rfl) (Nat.le_of_eq (by kernel_rfl)) (by kernel_rfl) (by kernel_rfl) (fun _ _ _ h => h) (HS11.out) (Or.inl ⟨by kernel_rfl, ?hy52⟩) ?r52
          case hy52 =>
            intro w hSw
            try dsimp only at hSw
            go_simp
            first | (obtain ⟨⟨y0, y1, y2, y3, y4⟩, z0, z1, z2, z3, z4⟩ := hSw; go_simp) | skip
            try with_reducible rfl
          try simp only [Act.put, List.getElem_toArray, List.getElem_cons_succ, List.getElem_cons_zero, List.setIfInBounds_toArray, List.set_cons_zero, List.set_cons_succ]
          refine AnyBut.takeS (i := 6) (v := ?v53) rfl (by kernel_rfl) (Nat.le_of_eq (by kernel_rfl)) (by kernel_rfl) (by kernel_rfl) (fun _ _ _ h => h) (HS11.out) (Or.inl ⟨by kernel_rfl, ?hy53⟩) ?r53
          case hy53 =>
            intro w hSw
            try dsimp only at hSw
            go_simp
            first | (obtain ⟨⟨y0, y1, y2, y3, y4⟩, z0, z1, z2, z3, z4⟩ := hSw; go_simp) | skip
            try with_reducible rfl
          try simp only [Act.put, List.getElem_toArray, List.getElem_cons_succ, List.getElem_cons_zero, List.setIfInBounds_toArray, List.set_cons_zero, List.set_cons_succ]
          refine AnyBut.takeS (i := 7) (v := ?v54) rfl (by kernel_rfl) (Nat.le_of_eq (by kernel_rfl)) (by kernel_rfl) (by kernel_rfl) (fun _ _ _ h => h) (HS11.out) (Or.inl ⟨by kernel_rfl, ?hy54⟩) ?r54
          case hy54 =>
            intro w hSw
            try dsimp only at hSw
            go_simp
            first | (obtain ⟨⟨y0, y1, y2, y3, y4⟩, z0, z1, z2, z3, z4⟩ := hSw; go_simp) | skip
            try with_reducible rfl
          try simp only [Act.put, List.getElem_toArray, List.getElem_cons_succ, List.getElem_cons_zero, List.setIfInBounds_toArray, List.set_cons_zero, List.set_cons_succ]
          refine AnyBut.takeS (i := 8) (v := ?v55) rfl (by kernel_rfl) (Nat.le_of_eq (by kernel_rfl)) (by kernel_rfl) (by kernel_rfl) (fun _ _ _ h => h) (HS11.out) (Or.inl ⟨by kernel_rfl, ?hy55⟩) ?r55
          case hy55 =>
            intro w hSw
            try dsimp only at hSw
            go_simp
            first | (obtain ⟨⟨y0, y1, y2, y3, y4⟩, z0, z1, z2, z3, z4⟩ := hSw; go_simp) | skip
            try with_reducible rfl
          try simp only [Act.put, List.getElem_toArray, List.getElem_cons_succ, List.getElem_cons_zero, List.setIfInBounds_toArray, List.set_cons_zero, List.set_cons_succ]
          refine AnyBut.takeS (i := 9) (v := ?v56) rfl (by kernel_rfl) (Nat.le_of_eq (by kernel_rfl)) (by kernel_rfl) (by kernel_rfl) (fun _ _ _ h => h) (HS11.out) (Or.inl ⟨by kernel_rfl, ?hy56⟩) ?r56
          case hy56 =>
            intro w hSw
            try dsimp only at hSw
            go_simp
            first | (obtain ⟨⟨y0, y1, y2, y3, y4⟩, z0, z1, z2, z3, z4⟩ := hSw; go_simp) | skip
            try with_reducible rfl
          try simp only [Act.put, List.getElem_toArray, List.getElem_cons_succ, List.getElem_cons_zero, List.setIfInBounds_toArray, List.set_cons_zero, List.set_cons_succ]
          refine AnyBut.takeS (i := 10) (v := ?v57) rfl (by kernel_rfl) (Nat.le_of_eq (by kernel_rfl)) (by kernel_rfl) (by kernel_rfl) (fun _ _ _ h => h) (HS11.out) (Or.inl ⟨by kernel_rfl, ?hy57⟩) ?r57
          case hy57 =>
            intro w hSw
            try dsimp only at hSw
            go_simp
            first | (obtain ⟨⟨y0, y1, y2, y3, y4⟩, z0, z1, z2, z3, z4⟩ := hSw; go_simp) | skip
            try with_reducible rfl
          try simp only [Act.put, List.getElem_toArray, List.getElem_cons_succ, List.getElem_cons_zero, List.setIfInBounds_toArray, List.set_cons_zero, List.set_cons_succ]
          refine AnyBut.takeS (i := 11) (v := ?v58) rfl (by kernel_rfl) (Nat.le_of_eq (by kernel_rfl)) (by kernel_rfl) (by kernel_rfl) (fun _ _ _ h => h) (HS11.out) (Or.inl ⟨by kernel_rfl, ?hy58⟩) ?r58
          case hy58 =>
            intro w hSw
            try dsimp only at hSw
            go_simp
            first | (obtain ⟨⟨y0, y1, y2, y3, y4⟩, z0, z1, z2, z3, z4⟩ := hSw; go_simp) | skip
            try with_reducible rfl
          try simp only [Act.put, List.getElem_toArray, List.getElem_cons_succ, List.getElem_cons_zero, List.setIfInBounds_toArray, List.set_cons_zero, List.set_cons_succ]
          refine AnyBut.takeS (i := 12) (v := ?v59) rfl (by kernel_rfl) (Nat.le_of_eq (by kernel_rfl)) (by kernel_rfl) (by kernel_rfl) (fun _ _ _ h => h) (HS11.out) (Or.inl ⟨by kernel_rfl, ?hy59⟩) ?r59
          case hy59 =>
            intro w hSw
            try dsimp only at hSw
            go_simp
            first | (obtain ⟨⟨y0, y1, y2, y3, y4⟩, z0, z1, z2, z3, z4⟩ := hSw; go_simp) | skip
            try with_reducible rfl
          try simp only [Act.put, List.getElem_toArray, List.getElem_cons_succ, List.getElem_cons_zero, List.setIfInBounds_toArray, List.set_cons_zero, List.set_cons_succ]
          refine AnyBut.takeS (i := 13) (v := undef) rfl (by kernel_rfl) (Nat.le_of_eq (by kernel_rfl)) (by kernel_rfl) (by kernel_rfl) (fun _ _ _ h => h) (HS11.out) (Or.inr ⟨by kernel_rfl, rfl⟩) ?r60
          try simp only [Act.put, List.getElem_toArray, List.getElem_cons_succ, List.getElem_cons_zero, List.setIfInBounds_toArray, List.set_cons_zero, List.set_cons_succ]
          refine AnyBut.takeS (i := 14) (v := undef) rfl (by kernel_rfl) (Nat.le_of_eq (by kernel_rfl)) (by kernel_rfl) (by kernel_rfl) (fun _ _ _ h => h) (HS11.out) (Or.inr ⟨by kernel_rfl, rfl⟩) ?r61
          try simp only [Act.put, List.getElem_toArray, List.getElem_cons_succ, List.getElem_cons_zero, List.setIfInBounds_toArray, List.set_cons_zero, List.set_cons_succ]
          refine AnyBut.takeS (i := 15) (v := undef) rfl (by kernel_rfl) (Nat.le_of_eq (by kernel_rfl)) (by kernel_rfl) (by kernel_rfl) (fun _ _ _ h => h) (HS11.out) (Or.inr ⟨by kernel_rfl, rfl⟩) ?r62
          try simp only [Act.put, List.getElem_toArray, List.getElem_cons_succ, List.getElem_cons_zero, List.setIfInBounds_toArray, List.set_cons_zero, List.set_cons_succ]
          refine AnyBut.takeS (i := 16) (v := undef) rfl (by kernel_rfl) (Nat.le_of_eq (by kernel_rfl)) (by kernel_rfl) (by kernel_rfl) (fun _ _ _ h => h) (HS11.out) (Or.inr ⟨by kernel_rfl, rfl⟩) ?r63
          try simp only [Act.put, List.getElem_toArray, List.getElem_cons_succ, List.getElem_cons_zero, List.setIfInBounds_toArray, List.set_cons_zero, List.set_cons_succ]
          refine AnyBut.takeS (i := 17) (v := undef) rfl (by kernel_rfl) (Nat.le_of_eq (by kernel_rfl)) (by kernel_rfl) (by kernel_rfl) (fun _ _ _ h => h) (HS11.out) (Or.inr ⟨by kernel_rfl, rfl⟩) ?r64
          try simp only [Act.put, List.getElem_toArray, List.getElem_cons_succ, List.getElem_cons_zero, List.setIfInBounds_toArray, List.set_cons_zero, List.set_cons_succ]
          refine AnyBut.takeS (i := 18) (v := ?v65) rfl (by kernel_rfl) (Nat.le_of_eq (by kernel_rfl)) (by kernel_rfl) (by kernel_rfl) (fun _ _ _ h => h) (HS11.out) (Or.inl ⟨by kernel_rfl, ?hy65⟩) ?r65
          case hy65 =>
            intro w hSw
            try dsimp only at hSw
            go_simp
            first | (obtain ⟨⟨y0, y1, y2, y3, y4⟩, z0, z1, z2, z3, z4⟩ := hSw; go_simp) | skip
            try with_reducible rfl
          try simp only [Act.put, List.getElem_toArray, List.getElem_cons_succ, List.getElem_cons_zero, List.setIfInBounds_toArray, List.set_cons_zero, List.set_cons_succ]
          refine AnyBut.takeS (i := 19) (v := ?v66) rfl (by kernel_rfl) (Nat.le_of_eq (by kernel_rfl)) (by kernel_rfl) (by kernel_rfl) (fun _ _ _ h => h) (HS11.out) (Or.inl ⟨by kernel_rfl, ?hy66⟩) ?r66
          case hy66 =>
            intro w hSw
            try dsimp only at hSw
            go_simp
            first | (obtain ⟨⟨y0, y1, y2, y3, y4⟩, z0, z1, z2, z3, z4⟩ := hSw; go_simp) | skip
            try with_reducible rfl
          try simp only [Act.put, List.getElem_toArray, List.getElem_cons_succ, List.getElem_cons_zero, List.setIfInBounds_toArray, List.set_cons_zero, List.set_cons_succ]
          refine AnyBut.takeS (i := 20) (v := undef) rfl (by kernel_rfl) (Nat.le_of_eq (by kernel_rfl)) (by kernel_rfl) (by kernel_rfl) (fun _ _ _ h => h) (HS11.out) (Or.inr ⟨by kernel_rfl, rfl⟩) ?r67
          try simp only [Act.put, List.getElem_toArray, List.getElem_cons_succ, List.getElem_cons_zero, List.setIfInBounds_toArray, List.set_cons_zero, List.set_cons_succ]
          refine AnyBut.takeS (i := 21) (v := undef) rfl (by kernel_rfl) (Nat.le_of_eq (by kernel_rfl)) (by kernel_rfl) (by kernel_rfl) (fun _ _ _ h => h) (HS11.out) (Or.inr ⟨by kernel_rfl, rfl⟩) ?r68
          try simp only [Act.put, List.getElem_toArray, List.getElem_cons_succ, List.getElem_cons_zero, List.setIfInBounds_toArray, List.set_cons_zero, List.set_cons_succ]
          refine AnyBut.takeS (i := 22) (v := undef) rfl (by kernel_rfl) (Nat.le_of_eq (by kernel_rfl)) (by kernel_rfl) (by kernel_rfl) (fun _ _ _ h => h) (HS11.out) (Or.inr ⟨by kernel_rfl, rfl⟩) ?r69
          try simp only [Act.put, List.getElem_toArray, List.getElem_cons_succ, List.getElem_cons_zero, List.setIfInBounds_toArray, List.set_cons_zero, List.set_cons_succ]
          refine AnyBut.takeS (i := 23) (v := undef) rfl (by kernel_rfl) (Nat.le_of_eq (by kernel_rfl)) (by kernel_rfl) (by kernel_rfl) (fun _ _ _ h => h) (HS11.out) (Or.inr ⟨by kernel_rfl, rfl⟩) ?r70
          try simp only [Act.put, List.getElem_toArray, List.getElem_cons_succ, List.getElem_cons_zero, List.setIfInBounds_toArray, List.set_cons_zero, List.set_cons_succ]
          refine AnyBut.takeS (i := 24) (v := undef) rfl (by kernel_rfl) (Nat.le_of_eq (by kernel_rfl)) (by kernel_rfl) (by kernel_rfl) (fun _ _ _ h => h) (HS11.out) (Or.inr ⟨by kernel_rfl, rfl⟩) ?r71
          try simp only [Act.put, List.getElem_toArray, List.getElem_cons_succ, List.getElem_cons_zero, List.setIfInBounds_toArray, List.set_cons_zero, List.set_cons_succ]
          refine AnyBut.takeS (i := 25) (v := ?v72) rfl (by kernel_rfl) (Nat.le_of_eq (by kernel_rfl)) (by kernel_rfl) (by kernel_rfl) (fun _ _ _ h => h) (HS11.out) (Or.inl ⟨by kernel_rfl, ?hy72⟩) ?r72
          case hy72 =>
            intro w hSw
            try dsimp only at hSw
            go_simp
            first | (obtain ⟨⟨y0, y1, y2, y3, y4⟩, z0, z1, z2, z3, z4⟩ := hSw; go_simp) | skip
            try with_reducible rfl
          try simp only [Act.put, List.getElem_toArray, List.getElem_cons_succ, List.getElem_cons_zero, List.setIfInBounds_toArray, List.set_cons_zero, List.set_cons_succ]
          refine AnyBut.takeS (i := 26) (v := ?v73) rfl (by kernel_rfl) (Nat.le_of_eq (by kernel_rfl)) (by kernel_rfl) (by kernel_rfl) (fun _ _ _ h => h) (HS11.out) (Or.inl ⟨by kernel_rfl, ?hy73⟩) ?r73
          case hy73 =>
            intro w hSw
            try dsimp only at hSw
            go_simp
            first | (obtain ⟨⟨y0, y1, y2, y3, y4⟩, z0, z1, z2, z3, z4⟩ := hSw; go_simp) | skip
            try with_reducible rfl
          try simp only [Act.put, List.getElem_toArray, List.getElem_cons_succ, List.getElem_cons_zero, List.setIfInBounds_toArray, List.set_cons_zero, List.set_cons_succ]
          refine AnyBut.takeS (i := 27) (v := undef) rfl (by kernel_rfl) (Nat.le_of_eq (by kernel_rfl)) (by kernel_rfl) (by kernel_rfl) (fun _ _ _ h => h) (HS11.out) (Or.inr ⟨by kernel_rfl, rfl⟩) ?r74
          try simp only [Act.put, List.getElem_toArray, List.getElem_cons_succ, List.getElem_cons_zero, List.setIfInBounds_toArray, List.set_cons_zero, List.set_cons_succ]
          refine AnyBut.takeS (i := 28) (v := undef) rfl (by kernel_rfl) (Nat.le_of_eq (by kernel_rfl)) (by kernel_rfl) (by kernel_rfl) (fun _ _ _ h => h) (HS11.out) (Or.inr ⟨by kernel_rfl, rfl⟩) ?r75
          try simp only [Act.put, List.getElem_toArray, List.getElem_cons_succ, List.getElem_cons_zero, List.setIfInBounds_toArray, List.set_cons_zero, List.set_cons_succ]
          refine AnyBut.takeS (i := 29) (v := undef) rfl (by kernel_rfl) (Nat.le_of_eq (by kernel_rfl)) (by kernel_rfl) (by kernel_rfl) (fun _ _ _ h => h) (HS11.out) (Or.inr ⟨by kernel_rfl, rfl⟩) ?r76
          try simp only [Act.put, List.getElem_toArray, List.getElem_cons_succ, List.getElem_cons_zero, List.setIfInBounds_toArray, List.set_cons_zero, List.set_cons_succ]
          refine AnyBut.takeS (i := 30) (v := undef) rfl (by kernel_rfl) (Nat.le_of_eq (by kernel_rfl)) (by kernel_rfl) (by kernel_rfl) (fun _ _ _ h => h) (HS11.out) (Or.inr ⟨by kernel_rfl, rfl⟩) ?r77
          try simp only [Act.put, List.getElem_toArray, List.getElem_cons_succ, List.getElem_cons_zero, List.setIfInBounds_toArray, List.set_cons_zero, List.set_cons_succ]
          refine AnyBut.takeS (i := 31) (v := undef) rfl (by kernel_rfl) (Nat.le_of_eq (by kernel_rfl)) (by kernel_rfl) (by kernel_rfl) (fun _ _ _ h => h) (HS11.out) (Or.inr ⟨by kernel_rfl, rfl⟩) ?r78
          try simp only [Act.put, List.getElem_toArray, List.getElem_cons_succ, List.getElem_cons_zero, List.setIfInBounds_toArray, List.set_cons_zero, List.set_cons_succ]
          refine AnyBut.takeS (i := 32) (v := undef) rfl (by kernel_rfl) (Nat.le_of_eq (by kernel_rfl)) (by kernel_rfl) (by kernel_rfl) (fun _ _ _ h => h) (HS11.out) (Or.inr ⟨by kernel_rfl, rfl⟩) ?r79
          try simp only [Act.put, List.getElem_toArray, List.getElem_cons_succ, List.getElem_cons_zero, List.setIfInBounds_toArray, List.set_cons_zero, List.set_cons_succ]
          refine AnyBut.takeS (i := 33) (v := undef) rfl (by kernel_rfl) (Nat.le_of_eq (by kernel_rfl)) (by kernel_rfl) (by kernel_rfl) (fun _ _ _ h => h) (HS11.out) (Or.inr ⟨by kernel_rfl, rfl⟩) ?r80
          try simp only [Act.put, List.getElem_toArray, List.getElem_cons_succ, List.getElem_cons_zero, List.setIfInBounds_toArray, List.set_cons_zero, List.set_cons_succ]
          refine AnyBut.takeS (i := 34) (v := ?v81) rfl (by kernel_rfl) (Nat.le_of_eq (by kernel_rfl)) (by kernel_rfl) (by kernel_rfl) (fun _ _ _ h => h) (HS11.out) (Or.inl ⟨by kernel_rfl, ?hy81⟩) ?r81
          case hy81 =>
            intro w hSw
            try dsimp only at hSw
            go_simp
            first | (obtain ⟨⟨y0, y1, y2, y3, y4⟩, z0, z1, z2, z3, z4⟩ := hSw; go_simp) | skip
            try with_reducible rfl
          try simp only [Act.put, List.getElem_toArray, List.getElem_cons_succ, List.getElem_cons_zero, List.setIfInBounds_toArray, List.set_cons_zero, List.set_cons_succ]
          refine AnyBut.takeS (i := 35) (v := ?v82) rfl (by kernel_rfl) (Nat.le_of_eq (by kernel_rfl)) (by kernel_rfl) (by kernel_rfl) (fun _ _ _ h => h) (HS11.out) (Or.inl ⟨by kernel_rfl, ?hy82⟩) ?r82
          case hy82 =>
            intro w hSw
            try dsimp only at hSw
            go_simp
            first | (obtain ⟨⟨y0, y1, y2, y3, y4⟩, z0, z1, z2, z3, z4⟩ := hSw; go_simp) | skip
            try with_reducible rfl
          try simp only [Act.put, List.getElem_toArray, List.getElem_cons_succ, List.getElem_cons_zero, List.setIfInBounds_toArray, List.set_cons_zero, List.set_cons_succ]
          refine AnyBut.done (by kernel_rfl) ?_
          go_wp2
          go_ret
          exact ⟨rfl, HK02.out.trans HK11.out⟩
        | true =>
          cases hbt : (x.temp == y.temp) with
          | false =>
            have hrr : (s1.toList == s2.toList) = false := by rw [HKA.out]; unfold alikeP; rw [hbt]; simp
            go_upto_region 11 with fail
            refine AnyBut.start (S := fun w' => (w'.cell? ⟨q, 0, none⟩ = some (.string x.name) ∧ w'.cell? ⟨q, 1, none⟩ = some (.slice xaa x.L.length xac) ∧ w'.cell? ⟨q, 2, none⟩ = some (.int .i64 x.kind) ∧ w'.cell? ⟨q, 3, none⟩ = some (.int .i64 x.temp) ∧ w'.cell? ⟨q, 4, none⟩ = some (.bool x.mono)) ∧ (w'.cell? ⟨q + 1, 0, none⟩ = some (.string y.name) ∧ w'.cell? ⟨q + 1, 1, none⟩ = some (.slice yaa y.L.length yac) ∧ w'.cell? ⟨q + 1, 2, none⟩ = some (.int .i64 y.kind) ∧ w'.cell? ⟨q + 1, 3, none⟩ = some (.int .i64 y.temp) ∧ w'.cell? ⟨q + 1, 4, none⟩ = some (.bool y.mono))) (k := 36) (by kernel_rfl) ?_
            refine AnyBut.takeS (i := 0) (v := ?v83) rfl (by kernel_rfl) (Nat.le_of_eq (by kernel_rfl)) (by kernel_rfl) (by kernel_rfl) (fun _ _ _ h => h) (HS11.out) (Or.inl ⟨by kernel_rfl, ?hy83⟩) ?r83
            case hy83 =>
              intro w hSw
              try dsimp only at hSw
              go_simp
              first | (obtain ⟨⟨y0, y1, y2, y3, y4⟩, z0, z1, z2, z3, z4⟩ := hSw; go_simp) | skip
              try with_reducible rfl
            try simp only [Act.put, List.getElem_toArray, List.getElem_cons_zero, List.setIfInBounds_toArray, List.set_cons_zero, List.set_cons_succ]
            refine AnyBut.takeS (i := 1) (v := ?v84) rfl (by kernel_rfl) (Nat.le_of_eq (by kernel_rfl)) (by kernel_rfl) (by kernel_rfl) (fun _ _ _ h => h) (HS11.out) (Or.inl ⟨by kernel_rfl, ?hy84⟩) ?r84
            case hy84 =>
              intro w hSw
              try dsimp only at hSw
              go_simp
              first | (obtain ⟨⟨y0, y1, y2, y3, y4⟩, z0, z1, z2, z3, z4⟩ := hSw; go_simp) | skip
              try with_reducible rfl
            try simp only [Act.put, List.getElem_toArray, List.getElem_cons_succ, List.getElem_cons_zero, List.setIfInBounds_toArray, List.set_cons_zero, List.set_cons_succ]
            refine AnyBut.takeS (i := 2) (v := ?v85) rfl (by kernel_rfl) (Nat.le_of_eq (by kernel_rfl)) (by kernel_rfl) (by kernel_rfl) (fun _ _ _ h => h) (HS11.out) (Or.inl ⟨by kernel_rfl, ?hy85⟩) ?r85
            case hy85 =>
              intro w hSw
              try dsimp only at hSw
              go_simp
              first | (obtain ⟨⟨y0, y1, y2, y3, y4⟩, z0, z1, z2, z3, z4⟩ := hSw; go_simp) | skip
              try with_reducible rfl
            try simp only [Act.put, List.getElem_toArray, List.getElem_cons_succ, List.getElem_cons_zero, List.setIfInBounds_toArray, List.set_cons_zero, List.set_cons_succ]
            refine AnyBut.takeS (i := 3) (v := ?v86) rfl (by kernel_rfl) (Nat.le_of_eq (by kernel_rfl)) (by kernel_rfl) (by kernel_rfl) (fun _ _ _ h => h) (HS11.out) (Or.inl ⟨by kernel_rfl, ?hy86⟩) ?r86
            case hy86 =>
              intro w hSw
              try dsimp only at hSw
              go_simp
              first | (obtain ⟨⟨y0, y1, y2, y3, y4⟩, z0, z1, z2, z3, z4⟩ := hSw; go_simp) | skip
              try with_reducible rfl
            try simp only [Act.put, List.getElem_toArray, List.getElem_cons_succ, List.getElem_cons_zero, List.setIfInBounds_toArray, List.set_cons_zero, List.set_cons_succ]
            refine AnyBut.takeS (i := 4) (v := ?v87) rfl (by kernel_rfl) (Nat.le_of_eq (by kernel_rfl)) (by kernel_rfl) (by kernel_rfl) (fun _ _ _ h => h) (HS11.out) (Or.inl ⟨by kernel_rfl, ?hy87⟩) ?r87
            case hy87 =>
              intro w hSw
              try dsimp only at hSw
              go_simp
              first | (obtain ⟨⟨y0, y1, y2, y3, y4⟩, z0, z1, z2, z3, z4⟩ := hSw; go_simp) | skip
              try with_reducible rfl
            try simp only [Act.put, List.getElem_toArray, List.getElem_cons_succ, List.getElem_cons_zero, List.setIfInBounds_toArray, List.set_cons_zero, List.set_cons_succ]
            refine AnyBut.takeS (i := 5) (v := ?v88) rfl (by kernel_rfl) (Nat.le_of_eq (by kernel_rfl)) (by kernel_rfl) (by kernel_rfl) (fun _ _ _ h => h) (HS11.out) (Or.inl ⟨by kernel_rfl, ?hy88⟩) ?r88
            case hy88 =>
              intro w hSw
              try dsimp only at hSw
              go_simp
              first | (obtain ⟨⟨y0, y1, y2, y3, y4⟩, z0, z1, z2, z3, z4⟩ := hSw; go_simp) | skip
              try with_reducible rfl
            try simp only [Act.put, List.getElem_toArray, List.getElem_cons_succ, List.getElem_cons_zero, List.setIfInBounds_toArray, List.set_cons_zero, List.set_cons_succ]
            refine AnyBut.takeS (i := 6) (v := ?v89) rfl (by kernel_rfl) (Nat.le_of_eq (by kernel_rfl)) (by kernel_rfl) (by kernel_rfl) (fun _ _ _ h => h) (HS11.out) (Or.inl ⟨by kernel_rfl, ?hy89⟩) ?r89
            case hy89 =>
              intro w hSw
              try dsimp only at hSw
              go_simp
              first | (obtain ⟨⟨y0, y1, y2, y3, y4⟩, z0, z1, z2, z3, z4⟩ := hSw; go_simp) | skip
              try with_reducible rfl
            try simp only [Act.put, List.getElem_toArray, List.getElem_cons_succ, List.getElem_cons_zero, List.setIfInBounds_toArray, List.set_cons_zero, List.set_cons_succ]
            refine AnyBut.takeS (i := 7) (v := ?v90) rfl (by kernel_rfl) (Nat.le_of_eq (by kernel_rfl)) (by kernel_rfl) (by kernel_rfl) (fun _ _ _ h => h) (HS11.out) (Or.inl ⟨by kernel_rfl, ?hy90⟩) ?r90
            case hy90 =>
              intro w hSw
              try dsimp only at hSw
              go_simp
              first | (obtain ⟨⟨y0, y1, y2, y3, y4⟩, z0, z1, z2, z3, z4⟩ := hSw; go_simp) | skip
              try with_reducible rfl
            try simp only [Act.put, List.getElem_toArray, List.getElem_cons_succ, List.getElem_cons_zero, List.setIfInBounds_toArray, List.set_cons_zero, List.set_cons_succ]
            refine AnyBut.takeS (i := 8) (v := ?v91) rfl (by kernel_rfl) (Nat.le_of_eq (by kernel_rfl)) (by kernel_rfl) (by kernel_rfl) (fun _ _ _ h => h) (HS11.out) (Or.inl ⟨by kernel_rfl, ?hy91⟩) ?r91
            case hy91 =>
              intro w hSw
              try dsimp only at hSw
              go_simp
              first | (obtain ⟨⟨y0, y1, y2, y3, y4⟩, z0, z1, z2, z3, z4⟩ := hSw; go_simp) | skip
              try with_reducible rfl
            try simp only [Act.put, List.getElem_toArray, List.getElem_cons_succ, List.getElem_cons_zero, List.setIfInBounds_toArray, List.set_cons_zero, List.set_cons_succ]
            refine AnyBut.takeS (i := 9) (v := ?v92) rfl (by kernel_rfl) (Nat.le_of_eq (by kernel_rfl)) (by kernel_rfl) (by kernel_rfl) (fun _ _ _ h => h) (HS11.out) (Or.inl ⟨by kernel_rfl, ?hy92⟩) ?r92
            case hy92 =>
              intro w hSw
              try dsimp only at hSw
              go_simp
              first | (obtain ⟨⟨y0, y1, y2, y3, y4⟩, z0, z1, z2, z3, z4⟩ := hSw; go_simp) | skip
              try with_reducible rfl
            try simp only [Act.put, List.getElem_toArray, List.getElem_cons_succ, List.getElem_cons_zero, List.setIfInBounds_toArray, List.set_cons_zero, List.set_cons_succ]
            refine AnyBut.takeS (i := 10) (v := ?v93) rfl (by kernel_rfl) (Nat.le_of_eq (by kernel_rfl)) (by kernel_rfl) (by kernel_rfl) (fun _ _ _ h => h) (HS11.out) (Or.inl ⟨by kernel_rfl, ?hy93⟩) ?r93
            case hy93 =>
              intro w hSw
              try dsimp only at hSw
              go_simp
              first | (obtain ⟨⟨y0, y1, y2, y3, y4⟩, z0, z1, z2, z3, z4⟩ := hSw; go_simp) | skip
              try with_reducible rfl
            try simp only [Act.put, List.getElem_toArray, List.getElem_cons_succ, List.getElem_cons_zero, List.setIfInBounds_toArray, List.set_cons_zero, List.set_cons_succ]
            refine AnyBut.takeS (i := 11) (v := ?v94) rfl (by kernel_rfl) (Nat.le_of_eq (by kernel_rfl)) (by kernel_rfl) (by kernel_rfl) (fun _ _ _ h => h) (HS11.out) (Or.inl ⟨by kernel_rfl, ?hy94⟩) ?r94
            case hy94 =>
              intro w hSw
              try dsimp only at hSw
              go_simp
              first | (obtain ⟨⟨y0, y1, y2, y3, y4⟩, z0, z1, z2, z3, z4⟩ := hSw; go_simp) | skip
              try with_reducible rfl
            try simp only [Act.put, List.getElem_toArray, List.getElem_cons_succ, List.getElem_cons_zero, List.setIfInBounds_toArray, List.set_cons_zero, List.set_cons_succ]
            refine AnyBut.takeS (i := 12) (v := ?v95) rfl (by kernel_rfl) (Nat.le_of_eq (by kernel_rfl)) (by kernel_rfl) (by kernel_rfl) (fun _ _ _ h => h) (HS11.out) (Or.inl ⟨by kernel_rfl, ?hy95⟩) ?r95
            case hy95 =>
              intro w hSw
              try dsimp only at hSw
              go_simp
              first | (obtain ⟨⟨y0, y1, y2, y3, y4⟩, z0, z1, z2, z3, z4⟩ := hSw; go_simp) | skip
              try with_reducible rfl
            try simp only [Act.put, List.getElem_toArray, List.getElem_cons_succ, List.getElem_cons_zero, List.setIfInBounds_toArray, List.set_cons_zero, List.set_cons_succ]
            refine AnyBut.takeS (i := 13) (v := ?v96) rfl (by kernel_rfl) (Nat.le_of_eq (by kernel_rfl)) (by kernel_rfl) (by kernel_rfl) (fun _ _ _ h => h) (HS11.out) (Or.inl ⟨by kernel_rfl, ?hy96⟩) ?r96
            case hy96 =>
              intro w hSw
              try dsimp only at hSw
              go_simp
              first | (obtain ⟨⟨y0, y1, y2, y3, y4⟩, z0, z1, z2, z3, z4⟩ := hSw; go_simp) | skip
              try with_reducible rfl
            try simp only [Act.put, List.getElem_toArray, List.getElem_cons_succ, List.getElem_cons_zero, List.setIfInBounds_toArray, List.set_cons_zero, List.set_cons_succ]
            refine AnyBut.takeS (i := 14) (v := ?v97) rfl (by kernel_rfl) (Nat.le_of_eq (by kernel_rfl)) (by kernel_rfl) (by kernel_rfl) (fun _ _ _ h => h) (HS11.out) (Or.inl ⟨by kernel_rfl, ?hy97⟩) ?r97
            case hy97 =>
              intro w hSw
              try dsimp only at hSw
              go_simp
              first | (obtain ⟨⟨y0, y1, y2, y3, y4⟩, z0, z1, z2, z3, z4⟩ := hSw; go_simp) | skip
              try with_reducible rfl
            try simp only [Act.put, List.getElem_toArray, List.getElem_cons_succ, List.getElem_cons_zero, List.setIfInBounds_toArray, List.set_cons_zero, List.set_cons_succ]
            refine AnyBut.takeS (i := 15) (v := ?v98) rfl (by kernel_rfl) (Nat.le_of_eq (by kernel_rfl)) (by kernel_rfl) (by kernel_rfl) (fun _ _ _ h => h) (HS11.out) (Or.inl ⟨by kernel_rfl, ?hy98⟩) ?r98
            case hy98 =>
              intro w hSw
              try dsimp only at hSw
              go_simp
              first | (obtain ⟨⟨y0, y1, y2, y3, y4⟩, z0, z1, z2, z3, z4⟩ := hSw; go_simp) | skip
              try with_reducible rfl
            try simp only [Act.put, List.getElem_toArray, List.getElem_cons_succ, List.getElem_cons_zero, List.setIfInBounds_toArray, List.set_cons_zero, List.set_cons_succ]
            refine AnyBut.takeS (i := 16) (v := ?v99) rfl (by kernel_rfl) (Nat.le_of_eq (by kernel_rfl)) (by kernel_rfl) (by kernel_rfl) (fun _ _ _ h => h) (HS11.out) (Or.inl ⟨by kernel_rfl, ?hy99⟩) ?r99
            case hy99 =>
              intro w hSw
              try dsimp only at hSw
              go_simp
              first | (obtain ⟨⟨y0, y1, y2, y3, y4⟩, z0, z1, z2, z3, z4⟩ := hSw; go_simp) | skip
              try with_reducible rfl
            try simp only [Act.put, List.getElem_toArray, List.getElem_cons_succ, List.getElem_cons_zero, List.setIfInBounds_toArray, List.set_cons_zero, List.set_cons_succ]
            refine AnyBut.takeS (i := 17) (v := ?v100) rfl (by kernel_rfl) (Nat.le_of_eq (by kernel_rfl)) (by kernel_rfl) (by kernel_rfl) (fun _ _ _ h => h) (HS11.out) (Or.inl ⟨by kernel_rfl, ?hy100⟩) ?r100
            case hy100 =>
              intro w hSw
              try dsimp only at hSw
              go_simp
              first | (obtain ⟨⟨y0, y1, y2, y3, y4⟩, z0, z1, z2, z3, z4⟩ := hSw; go_simp) | skip
              try with_reducible rfl
            try simp only [Act.put, List.getElem_toArray, List.getElem_cons_succ, List.getElem_cons_zero, List.setIfInBounds_toArray, List.set_cons_zero, List.set_cons_succ]
            refine AnyBut.takeS (i := 18) (v := ?v101) rfl (by kernel_rfl) (Nat.le_of_eq (by kernel_rfl)) (by kernel_rfl) (by kernel_rfl) (fun _ _ _ h => h) (HS11.out) (Or.inl ⟨by kernel_rfl, ?hy101⟩) ?r101
            case hy101 =>
              intro w hSw
              try dsimp only at hSw
              go_simp
              first | (obtain ⟨⟨y0, y1, y2, y3, y4⟩, z0, z1, z2, z3, z4⟩ := hSw; go_simp) | skip
              try with_reducible rfl
            try simp only [Act.put, List.getElem_toArray, List.getElem_cons_succ, List.getElem_cons_zero, List.setIfInBounds_toArray, List.set_cons_zero, List.set_cons_succ]
            refine AnyBut.takeS (i := 19) (v := ?v102) rfl (by kernel_rfl) (Nat.le_of_eq (by kernel_rfl)) (by kernel_rfl) (by kernel_rfl) (fun _ _ _ h => h) (HS11.out) (Or.inl ⟨by kernel_rfl, ?hy102⟩) ?r102
            case hy102 =>
              intro w hSw
              try dsimp only at hSw
              go_simp
              first | (obtain ⟨⟨y0, y1, y2, y3, y4⟩, z0, z1, z2, z3, z4⟩ := hSw; go_simp) | skip
              try with_reducible rfl
            try simp only [Act.put, List.getElem_toArray, List.getElem_cons_succ, List.getElem_cons_zero, List.setIfInBounds_toArray, List.set_cons_zero, List.set_cons_succ]
            refine AnyBut.takeS (i := 20) (v := undef) rfl (by kernel_rfl) (Nat.le_of_eq (by kernel_rfl)) (by kernel_rfl) (by kernel_rfl) (fun _ _ _ h => h) (HS11.out) (Or.inr ⟨by kernel_rfl, rfl⟩) ?r103
            try simp only [Act.put, List.getElem_toArray, List.getElem_cons_succ, List.getElem_cons_zero, List.setIfInBounds_toArray, List.set_cons_zero, List.set_cons_succ]
            refine AnyBut.takeS (i := 21) (v := undef) rfl (by kernel_rfl) (Nat.le_of_eq (by kernel_rfl)) (by kernel_rfl) (by kernel_rfl) (fun _ _ _ h => h) (HS11.out) (Or.inr ⟨by kernel_rfl, rfl⟩) ?r104
            try simp only [Act.put, List.getElem_toArray, List.getElem_cons_succ, List.getElem_cons_zero, List.setIfInBounds_toArray, List.set_cons_zero, List.set_cons_succ]
            refine AnyBut.takeS (i := 22) (v := undef) rfl (by kernel_rfl) (Nat.le_of_eq (by kernel_rfl)) (by kernel_rfl) (by kernel_rfl) (fun _ _ _ h => h) (HS11.out) (Or.inr ⟨by kernel_rfl, rfl⟩) ?r105
            try simp only [Act.put, List.getElem_toArray, List.getElem_cons_succ, List.getElem_cons_zero, List.setIfInBounds_toArray, List.set_cons_zero, List.set_cons_succ]
            refine AnyBut.takeS (i := 23) (v := undef) rfl (by kernel_rfl) (Nat.le_of_eq (by kernel_rfl)) (by kernel_rfl) (by kernel_rfl) (fun _ _ _ h => h) (HS11.out) (Or.inr ⟨by kernel_rfl, rfl⟩) ?r106
            try simp only [Act.put, List.getElem_toArray, List.getElem_cons_succ, List.getElem_cons_zero, List.setIfInBounds_toArray, List.set_cons_zero, List.set_cons_succ]
            refine AnyBut.takeS (i := 24) (v := undef) rfl (by kernel_rfl) (Nat.le_of_eq (by kernel_rfl)) (by kernel_rfl) (by kernel_rfl) (fun _ _ _ h => h) (HS11.out) (Or.inr ⟨by kernel_rfl, rfl⟩) ?r107
            try simp only [Act.put, List.getElem_toArray, List.getElem_cons_succ, List.getElem_cons_zero, List.setIfInBounds_toArray, List.set_cons_zero, List.set_cons_succ]
            refine AnyBut.takeS (i := 25) (v := ?v108) rfl (by kernel_rfl) (Nat.le_of_eq (by kernel_rfl)) (by kernel_rfl) (by kernel_rfl) (fun _ _ _ h => h) (HS11.out) (Or.inl ⟨by kernel_rfl, ?hy108⟩) ?r108
            case hy108 =>
              intro w hSw
              try dsimp only at hSw
              go_simp
              first | (obtain ⟨⟨y0, y1, y2, y3, y4⟩, z0, z1, z2, z3, z4⟩ := hSw; go_simp) | skip
              try with_reducible rfl
            try simp only [Act.put, List.getElem_toArray, List.getElem_cons_succ, List.getElem_cons_zero, List.setIfInBounds_toArray, List.set_cons_zero, List.set_cons_succ]
            refine AnyBut.takeS (i := 26) (v := ?v109) rfl (by kernel_rfl) (Nat.le_of_eq (by kernel_rfl)) (by kernel_rfl) (by kernel_rfl) (fun _ _ _ h => h) (HS11.out) (Or.inl ⟨by kernel_rfl, ?hy109⟩) ?r109
            case hy109 =>
              intro w hSw
              try dsimp only at hSw
              go_simp
              first | (obtain ⟨⟨y0, y1, y2, y3, y4⟩, z0, z1, z2, z3, z4⟩ := hSw; go_simp) | skip
              try with_reducible rfl
            try simp only [Act.put, List.getElem_toArray, List.getElem_cons_succ, List.getElem_cons_zero, List.setIfInBounds_toArray, List.set_cons_zero, List.set_cons_succ]
            refine AnyBut.takeS (i := 27) (v := undef) rfl (by kernel_rfl) (Nat.le_of_eq (by kernel_rfl)) (by kernel_rfl) (by kernel_rfl) (fun _ _ _ h => h) (HS11.out) (Or.inr ⟨by kernel_rfl, rfl⟩) ?r110
            try simp only [Act.put, List.getElem_toArray, List.getElem_cons_succ, List.getElem_cons_zero, List.setIfInBounds_toArray, List.set_cons_zero, List.set_cons_succ]
            refine AnyBut.takeS (i := 28) (v := undef) rfl (by kernel_rfl) (Nat.le_of_eq (by kernel_rfl)) (by kernel_rfl) (by kernel_rfl) (fun _ _ _ h => h) (HS11.out) (Or.inr ⟨by kernel_rfl, rfl⟩) ?r111
            try simp only [Act.put, List.getElem_toArray, List.getElem_cons_succ, List.getElem_cons_zero, List.setIfInBounds_toArray, List.set_cons_zero, List.set_cons_succ]
            refine AnyBut.takeS (i := 29) (v := undef) rfl (by kernel_rfl) (Nat.le_of_eq (by kernel_rfl)) (by kernel_rfl) (by kernel_rfl) (fun _ _ _ h => h) (HS11.out) (Or.inr ⟨by kernel_rfl, rfl⟩) ?r112
            try simp only [Act.put, List.getElem_toArray, List.getElem_cons_succ, List.getElem_cons_zero, List.setIfInBounds_toArray, List.set_cons_zero, List.set_cons_succ]
            refine AnyBut.takeS (i := 30) (v := undef) rfl (by kernel_rfl) (Nat.le_of_eq (by kernel_rfl)) (by kernel_rfl) (by kernel_rfl) (fun _ _ _ h => h) (HS11.out) (Or.inr ⟨by kernel_rfl, rfl⟩) ?r113
            try simp only [Act.put, List.getElem_toArray, List.getElem_cons_succ, List.getElem_cons_zero, List.setIfInBounds_toArray, List.set_cons_zero, List.set_cons_succ]
            refine AnyBut.takeS (i := 31) (v := undef) rfl (by kernel_rfl) (Nat.le_of_eq (by kernel_rfl)) (by kernel_rfl) (by kernel_rfl) (fun _ _ _ h => h) (HS11.out) (Or.inr ⟨by kernel_rfl, rfl⟩) ?r114
            try simp only [Act.put, List.getElem_toArray, List.getElem_cons_succ, List.getElem_cons_zero, List.setIfInBounds_toArray, List.set_cons_zero, List.set_cons_succ]
            refine AnyBut.takeS (i := 32) (v := undef) rfl (by kernel_rfl) (Nat.le_of_eq (by kernel_rfl)) (by kernel_rfl) (by kernel_rfl) (fun _ _ _ h => h) (HS11.out) (Or.inr ⟨by kernel_rfl, rfl⟩) ?r115
            try simp only [Act.put, List.getElem_toArray, List.getElem_cons_succ, List.getElem_cons_zero, List.setIfInBounds_toArray, List.set_cons_zero, List.set_cons_succ]
            refine AnyBut.takeS (i := 33) (v := undef) rfl (by kernel_rfl) (Nat.le_of_eq (by kernel_rfl)) (by kernel_rfl) (by kernel_rfl) (fun _ _ _ h => h) (HS11.out) (Or.inr ⟨by kernel_rfl, rfl⟩) ?r116
            try simp only [Act.put, List.getElem_toArray, List.getElem_cons_succ, List.getElem_cons_zero, List.setIfInBounds_toArray, List.set_cons_zero, List.set_cons_succ]
            refine AnyBut.takeS (i := 34) (v := ?v117) rfl (by kernel_rfl) (Nat.le_of_eq (by kernel_rfl)) (by kernel_rfl) (by kernel_rfl) (fun _ _ _ h => h) (HS11.out) (Or.inl ⟨by kernel_rfl, ?hy117⟩) ?r117
            case hy117 =>
              intro w hSw
              try dsimp only at hSw
              go_simp
              first | (obtain ⟨⟨y0, y1, y2, y3, y4⟩, z0, z1, z2, z3, z4⟩ := hSw; go_simp) | skip
              try with_reducible rfl
            try simp only [Act.put, List.getElem_toArray, List.getElem_cons_succ, List.getElem_cons_zero, List.setIfInBounds_toArray, List.set_cons_zero, List.set_cons_succ]
            refine AnyBut.takeS (i := 35) (v := ?v118) rfl (by kernel_rfl) (Nat.le_of_eq (by kernel_rfl)) (by kernel_rfl) (by kernel_rfl) (fun _ _ _ h => h) (HS11.out) (Or.inl ⟨by kernel_rfl, ?hy118⟩) ?r118
            case hy118 =>
              intro w hSw
              try dsimp only at hSw
              go_simp
              first | (obtain ⟨⟨y0, y1, y2, y3, y4⟩, z0, z1, z2, z3, z4⟩ := hSw; go_simp) | skip
              try with_reducible rfl
            try simp only [Act.put, List.getElem_toArray, List.getElem_cons_succ, List.getElem_cons_zero, List.setIfInBounds_toArray, List.set_cons_zero, List.set_cons_succ]
            refine AnyBut.done (by kernel_rfl) ?_
            go_wp2
            go_ret
            exact ⟨rfl, HK02.out.trans HK11.out⟩
          | true =>
            cases hbm : (x.mono == y.mono) with
            | false =>
              have hrr : (s1.toList == s2.toList) = false := by rw [HKA.out]; unfold alikeP; rw [hbm]; simp
              go_upto_region 11 with fail
              refine AnyBut.start (S := fun w' => (w'.cell? ⟨q, 0, none⟩ = some (.string x.name) ∧ w'.cell? ⟨q, 1, none⟩ = some (.slice xaa x.L.length xac) ∧ w'.cell? ⟨q, 2, none⟩ = some (.int .i64 x.kind) ∧ w'.cell? ⟨q, 3, none⟩ = some (.int .i64 x.temp) ∧ w'.cell? ⟨q, 4, none⟩ = some (.bool x.mono)) ∧ (w'.cell? ⟨q + 1, 0, none⟩ = some (.string y.name) ∧ w'.cell? ⟨q + 1, 1, none⟩ = some (.slice yaa y.L.length yac) ∧ w'.cell? ⟨q + 1, 2, none⟩ = some (.int .i64 y.kind) ∧ w'.cell? ⟨q + 1, 3, none⟩ = some (.int .i64 y.temp) ∧ w'.cell? ⟨q + 1, 4, none⟩ = some (.bool y.mono))) (k := 36) (by kernel_rfl) ?_
              refine AnyBut.takeS (i := 0) (v := ?v119) rfl (by kernel_rfl) (Nat.le_of_eq (by kernel_rfl)) (by kernel_rfl) (by kernel_rfl) (fun _ _ _ h => h) (HS11.out) (Or.inl ⟨by kernel_rfl, ?hy119⟩) ?r119
              case hy119 =>
                intro w hSw
                try dsimp only at hSw
                go_simp
                first | (obtain ⟨⟨y0, y1, y2, y3, y4⟩, z0, z1, z2, z3, z4⟩ := hSw; go_simp) | skip
                try with_reducible rfl
              try simp only [Act.put, List.getElem_toArray, List.getElem_cons_zero, List.setIfInBounds_toArray, List.set_cons_zero, List.set_cons_succ]
              refine AnyBut.takeS (i := 1) (v := ?v120) rfl (by kernel_rfl) (Nat.le_of_eq (by kernel_rfl)) (by kernel_rfl) (by kernel_rfl) (fun _ _ _ h => h) (HS11.out) (Or.inl ⟨by kernel_rfl, ?hy120⟩) ?r120
              case hy120 =>
                intro w hSw
                try dsimp only at hSw
                go_simp
                first | (obtain ⟨⟨y0, y1, y2, y3, y4⟩, z0, z1, z2, z3, z4⟩ := hSw; go_simp) | skip
                try with_reducible rfl
              try simp only [Act.put, List.getElem_toArray, List.getElem_cons_succ, List.getElem_cons_zero, List.setIfInBounds_toArray, List.set_cons_zero, List.set_cons_succ]
              refine AnyBut.takeS (i := 2) (v := ?v121) rfl (by kernel_rfl) (Nat.le_of_eq (by kernel_rfl)) (by kernel_rfl) (by kernel_rfl) (fun _ _ _ h => h) (HS11.out) (Or.inl ⟨by kernel_rfl, ?hy121⟩) ?r121
              case hy121 =>
                intro w hSw
                try dsimp only at hSw
                go_simp
                first | (obtain ⟨⟨y0, y1, y2, y3, y4⟩, z0, z1, z2, z3, z4⟩ := hSw; go_simp) | skip
                try with_reducible rfl
              try simp only [Act.put, List.getElem_toArray, List.getElem_cons_succ, List.getElem_cons_zero, List.setIfInBounds_toArray, List.set_cons_zero, List.set_cons_succ]
              refine AnyBut.takeS (i := 3) (v := ?v122) rfl (by kernel_rfl) (Nat.le_of_eq (by kernel_rfl)) (by kernel_rfl) (by kernel_rfl) (fun _ _ _ h => h) (HS11.out) (Or.inl ⟨by kernel_rfl, ?hy122⟩) ?r122
              case hy122 =>
                intro w hSw
                try dsimp only at hSw
                go_simp
                first | (obtain ⟨⟨y0, y1, y2, y3, y4⟩, z0, z1, z2, z3, z4⟩ := hSw; go_simp) | skip
                try with_reducible rfl
              try simp only [Act.put, List.getElem_toArray, List.getElem_cons_succ, List.getElem_cons_zero, List.setIfInBounds_toArray, List.set_cons_zero, List.set_cons_succ]
              refine AnyBut.takeS (i := 4) (v := ?v123) rfl (by kernel_rfl) (Nat.le_of_eq (by kernel_rfl)) (by kernel_rfl) (by kernel_rfl) (fun _ _ _ h => h) (HS11.out) (Or.inl ⟨by kernel_rfl, ?hy123⟩) ?r123
              case hy123 =>
                intro w hSw
                try dsimp only at hSw
                go_simp
                first | (obtain ⟨⟨y0, y1, y2, y3, y4⟩, z0, z1, z2, z3, z4⟩ := hSw; go_simp) | skip
                try with_reducible rfl
              try simp only [Act.put, List.getElem_toArray, List.getElem_cons_succ, List.getElem_cons_zero, List.setIfInBounds_toArray, List.set_cons_zero, List.set_cons_succ]
              refine AnyBut.takeS (i := 5) (v := ?v124) rfl (by kernel_rfl) (Nat.le_of_eq (by kernel_rfl)) (by kernel_rfl) (by kernel_rfl) (fun _ _ _ h => h) (HS11.out) (Or.inl ⟨by kernel_rfl, ?hy124⟩) ?r124
              case hy124 =>
                intro w hSw
                try dsimp only at hSw
                go_simp
                first | (obtain ⟨⟨y0, y1, y2, y3, y4⟩, z0, z1, z2, z3, z4⟩ := hSw; go_simp) | skip
                try with_reducible rfl
              try simp only [Act.put, List.getElem_toArray, List.getElem_cons_succ, List.getElem_cons_zero, List.setIfInBounds_toArray, List.set_cons_zero, List.set_cons_succ]
              refine AnyBut.takeS (i := 6) (v := ?v125) rfl (by kernel_rfl) (Nat.le_of_eq (by kernel_rfl)) (by kernel_rfl) (by kernel_rfl) (fun _ _ _ h => h) (HS11.out) (Or.inl ⟨by kernel_rfl, ?hy125⟩) ?r125
              case hy125 =>
                intro w hSw
                try dsimp only at hSw
                go_simp
                first | (obtain ⟨⟨y0, y1, y2, y3, y4⟩, z0, z1, z2, z3, z4⟩ := hSw; go_simp) | skip
                try with_reducible rfl
              try simp only [Act.put, List.getElem_toArray, List.getElem_cons_succ, List.getElem_cons_zero, List.setIfInBounds_toArray, List.set_cons_zero, List.set_cons_succ]
              refine AnyBut.takeS (i := 7) (v := ?v126) rfl (by kernel_rfl) (Nat.le_of_eq (by kernel_rfl)) (by kernel_rfl) (by kernel_rfl) (fun _ _ _ h => h) (HS11.out) (Or.inl ⟨by kernel_rfl, ?hy126⟩) ?r126
              case hy126 =>
                intro w hSw
                try dsimp only at hSw
                go_simp
                first | (obtain ⟨⟨y0, y1, y2, y3, y4⟩, z0, z1, z2, z3, z4⟩ := hSw; go_simp) | skip
                try with_reducible rfl
              try simp only [Act.put, List.getElem_toArray, List.getElem_cons_succ, List.getElem_cons_zero, List.setIfInBounds_toArray, List.set_cons_zero, List.set_cons_succ]
              refine AnyBut.takeS (i := 8) (v := ?v127) rfl (by kernel_rfl) (Nat.le_of_eq (by kernel_rfl)) (by kernel_rfl) (by kernel_rfl) (fun _ _ _ h => h) (HS11.out) (Or.inl ⟨by kernel_rfl, ?hy127⟩) ?r127
              case hy127 =>
                intro w hSw
                try dsimp only at hSw
                go_simp
                first | (obtain ⟨⟨y0, y1, y2, y3, y4⟩, z0, z1, z2, z3, z4⟩ := hSw; go_simp) | skip
                try with_reducible rfl
              try simp only [Act.put, List.getElem_toArray, List.getElem_cons_succ, List.getElem_cons_zero, List.setIfInBounds_toArray, List.set_cons_zero, List.set_cons_succ]
              refine AnyBut.takeS (i := 9) (v := ?v128) rfl (by kernel_rfl) (Nat.le_of_eq (by kernel_rfl)) (by kernel_rfl) (by kernel_rfl) (fun _ _ _ h => h) (HS11.out) (Or.inl ⟨by kernel_rfl, ?hy128⟩) ?r128
              case hy128 =>
                intro w hSw
                try dsimp only at hSw
                go_simp
                first | (obtain ⟨⟨y0, y1, y2, y3, y4⟩, z0, z1, z2, z3, z4⟩ := hSw; go_simp) | skip
                try with_reducible rfl
              try simp only [Act.put, List.getElem_toArray, List.getElem_cons_succ, List.getElem_cons_zero, List.setIfInBounds_toArray, List.set_cons_zero, List.set_cons_succ]
              refine AnyBut.takeS (i := 10) (v := ?v129) rfl (by kernel_rfl) (Nat.le_of_eq (by kernel_rfl)) (by kernel_rfl) (by kernel_rfl) (fun _ _ _ h => h) (HS11.out) (Or.inl ⟨by kernel_rfl, ?hy129⟩) ?r129
              case hy129 =>
                intro w hSw
                try dsimp only at hSw
                go_simp
                first | (obtain ⟨⟨y0, y1, y2, y3, y4⟩, z0, z1, z2, z3, z4⟩ := hSw; go_simp) | skip
                try with_reducible rfl
              try simp only [Act.put, List.getElem_toArray, List.getElem_cons_succ, List.getElem_cons_zero, List.setIfInBounds_toArray, List.set_cons_zero, List.set_cons_succ]
              refine AnyBut.takeS (i := 11) (v := ?v130) rfl (by kernel_rfl) (Nat.le_of_eq (by kernel_rfl)) (by kernel_rfl) (by kernel_rfl) (fun _ _ _ h => h) (HS11.out) (Or.inl ⟨by kernel_rfl, ?hy130⟩) ?r130
              case hy130 =>
                intro w hSw
                try dsimp only at hSw
                go_simp
                first | (obtain ⟨⟨y0, y1, y2, y3, y4⟩, z0, z1, z2, z3, z4⟩ := hSw; go_simp) | skip
                try with_reducible rfl
              try simp only [Act.put, List.getElem_toArray, List.getElem_cons_succ, List.getElem_cons_zero, List.setIfInBounds_toArray, List.set_cons_zero, List.set_cons_succ]
              refine AnyBut.takeS (i := 12) (v := ?v131) rfl (by kernel_rfl) (Nat.le_of_eq (by kernel_rfl)) (by kernel_rfl) (by kernel_rfl) (fun _ _ _ h => h) (HS11.out) (Or.inl ⟨by kernel_rfl, ?hy131⟩) ?r131
              case hy131 =>
                intro w hSw
                try dsimp only at hSw
                go_simp
                first | (obtain ⟨⟨y0, y1, y2, y3, y4⟩, z0, z1, z2, z3, z4⟩ := hSw; go_simp) | skip
                try with_reducible rfl
              try simp only [Act.put, List.getElem_toArray, List.getElem_cons_succ, List.getElem_cons_zero, List.setIfInBounds_toArray, List.set_cons_zero, List.set_cons_succ]
              refine AnyBut.takeS (i := 13) (v := ?v132) rfl (by kernel_rfl) (Nat.le_of_eq (by kernel_rfl)) (by kernel_rfl) (by kernel_rfl) (fun _ _ _ h => h) (HS11.out) (Or.inl ⟨by kernel_rfl, ?hy132⟩) ?r132
              case hy132 =>
                intro w hSw
                try dsimp only at hSw
                go_simp
                first | (obtain ⟨⟨y0, y1, y2, y3, y4⟩, z0, z1, z2, z3, z4⟩ := hSw; go_simp) | skip
                try with_reducible rfl
              try simp only [Act.put, List.getElem_toArray, List.getElem_cons_succ, List.getElem_cons_zero, List.setIfInBounds_toArray, List.set_cons_zero, List.set_cons_succ]
              refine AnyBut.takeS (i := 14) (v := ?v133) rfl (by kernel_rfl) (Nat.le_of_eq (by kernel_rfl)) (by kernel_rfl) (by kernel_rfl) (fun _ _ _ h => h) (HS11.out) (Or.inl ⟨by kernel_rfl, ?hy133⟩) ?r133
              case hy133 =>
                intro w hSw
                try dsimp only at hSw
                go_simp
                first | (obtain ⟨⟨y0, y1, y2, y3, y4⟩, z0, z1, z2, z3, z4⟩ := hSw; go_simp) | skip
                try with_reducible rfl
              try simp only [Act.put, List.getElem_toArray, List.getElem_cons_succ, List.getElem_cons_zero, List.setIfInBounds_toArray, List.set_cons_zero, List.set_cons_succ]
              refine AnyBut.takeS (i := 15) (v := ?v134) rfl (by kernel_rfl) (Nat.le_of_eq (by kernel_rfl)) (by kernel_rfl) (by kernel_rfl) (fun _ _ _ h => h) (HS11.out) (Or.inl ⟨by kernel_rfl, ?hy134⟩) ?r134
              case hy134 =>
                intro w hSw
                try dsimp only at hSw
                go_simp
                first | (obtain ⟨⟨y0, y1, y2, y3, y4⟩, z0, z1, z2, z3, z4⟩ := hSw; go_simp) | skip
                try with_reducible rfl
              try simp only [Act.put, List.getElem_toArray, List.getElem_cons_succ, List.getElem_cons_zero, List.setIfInBounds_toArray, List.set_cons_zero, List.set_cons_succ]
              refine AnyBut.takeS (i := 16) (v := ?v135) rfl (by kernel_rfl) (Nat.le_of_eq (by kernel_rfl)) (by kernel_rfl) (by kernel_rfl) (fun _ _ _ h => h) (HS11.out) (Or.inl ⟨by kernel_rfl, ?hy135⟩) ?r135
              case hy135 =>
                intro w hSw
                try dsimp only at hSw
                go_simp
                first | (obtain ⟨⟨y0, y1, y2, y3, y4⟩, z0, z1, z2, z3, z4⟩ := hSw; go_simp) | skip
                try with_reducible rfl
              try simp only [Act.put, List.getElem_toArray, List.getElem_cons_succ, List.getElem_cons_zero, List.setIfInBounds_toArray, List.set_cons_zero, List.set_cons_succ]
              refine AnyBut.takeS (i := 17) (v := ?v136) rfl (by kernel_rfl) (Nat.le_of_eq (by kernel_rfl)) (by kernel_rfl) (by kernel_rfl) (fun _ _ _ h => h) (HS11.out) (Or.inl ⟨by kernel_rfl, ?hy136⟩) ?r136
              case hy136 =>
                intro w hSw
                try dsimp only at hSw
                go_simp
                first | (obtain ⟨⟨y0, y1, y2, y3, y4⟩, z0, z1, z2, z3, z4⟩ := hSw; go_simp) | skip
                try with_reducible rfl
              try simp only [Act.put, List.getElem_toArray, List.getElem_cons_succ, List.getElem_cons_zero, List.setIfInBounds_toArray, List.set_cons_zero, List.set_cons_succ]
              refine AnyBut.takeS (i := 18) (v := ?v137) rfl (by kernel_rfl) (Nat.le_of_eq (by kernel_rfl)) (by kernel_rfl) (by kernel_rfl) (fun _ _ _ h => h) (HS11.out) (Or.inl ⟨by kernel_rfl, ?hy137⟩) ?r137
              case hy137 =>
                intro w hSw
                try dsimp only at hSw
                go_simp
                first | (obtain ⟨⟨y0, y1, y2, y3, y4⟩, z0, z1, z2, z3, z4⟩ := hSw; go_simp) | skip
                try with_reducible rfl
              try simp only [Act.put, List.getElem_toArray, List.getElem_cons_succ, List.getElem_cons_zero, List.setIfInBounds_toArray, List.set_cons_zero, List.set_cons_succ]
              refine AnyBut.takeS (i := 19) (v := ?v138) rfl (by kernel_rfl) (Nat.le_of_eq (by kernel_rfl)) (by kernel_rfl) (by kernel_rfl) (fun _ _ _ h => h) (HS11.out) (Or.inl ⟨by kernel_rfl, ?hy138⟩) ?r138
              case hy138 =>
                intro w hSw
                try dsimp only at hSw
                go_simp
                first | (obtain ⟨⟨y0, y1, y2, y3, y4⟩, z0, z1, z2, z3, z4⟩ := hSw; go_simp) | skip
                try with_reducible rfl
              try simp only [Act.put, List.getElem_toArray, List.getElem_cons_succ, List.getElem_cons_zero, List.setIfInBounds_toArray, List.set_cons_zero, List.set_cons_succ]
              refine AnyBut.takeS (i := 20) (v := ?v139) rfl (by kernel_rfl) (Nat.le_of_eq (by kernel_rfl)) (by kernel_rfl) (by kernel_rfl) (fun _ _ _ h => h) (HS11.out) (Or.inl ⟨by kernel_rfl, ?hy139⟩) ?r139
              case hy139 =>
                intro w hSw
                try dsimp only at hSw
                go_simp
                first | (obtain ⟨⟨y0, y1, y2, y3, y4⟩, z0, z1, z2, z3, z4⟩ := hSw; go_simp) | skip
                try with_reducible rfl
              try simp only [Act.put, List.getElem_toArray, List.getElem_cons_succ, List.getElem_cons_zero, List.setIfInBounds_toArray, List.set_cons_zero, List.set_cons_succ]
              refine AnyBut.takeS (i := 21) (v := ?v140) rfl (by kernel_rfl) (Nat.le_of_eq (by kernel_rfl)) (by kernel_rfl) (by kernel_rfl) (fun _ _ _ h => h) (HS11.out) (Or.inl ⟨by kernel_rfl, ?hy140⟩) ?r140
              case hy140 =>
                intro w hSw
                try dsimp only at hSw
                go_simp
                first | (obtain ⟨⟨y0, y1, y2, y3, y4⟩, z0, z1, z2, z3, z4⟩ := hSw; go_simp) | skip
                try with_reducible rfl
              try simp only [Act.put, List.getElem_toArray, List.getElem_cons_succ, List.getElem_cons_zero, List.setIfInBounds_toArray, List.set_cons_zero, List.set_cons_succ]
              refine AnyBut.takeS (i := 22) (v := ?v141) rfl (by kernel_rfl) (Nat.le_of_eq (by kernel_rfl)) (by kernel_rfl) (by kernel_rfl) (fun _ _ _ h => h) (HS11.out) (Or.inl ⟨by kernel_rfl, ?hy141⟩) ?r141
              case hy141 =>
                intro w hSw
                try dsimp only at hSw
                go_simp
                first | (obtain ⟨⟨y0, y1, y2, y3, y4⟩, z0, z1, z2, z3, z4⟩ := hSw; go_simp) | skip
                try with_reducible rfl
              try simp only [Act.put, List.getElem_toArray, List.getElem_cons_succ, List.getElem_cons_zero, List.setIfInBounds_toArray, List.set_cons_zero, List.set_cons_succ]
              refine AnyBut.takeS (i := 23) (v := ?v142) rfl (by kernel_rfl) (Nat.le_of_eq (by kernel_rfl)) (by kernel_rfl) (by kernel_rfl) (fun _ _ _ h => h) (HS11.out) (Or.inl ⟨by kernel_rfl, ?hy142⟩) ?r142
              case hy142 =>
                intro w hSw
                try dsimp only at hSw
                go_simp
                first | (obtain ⟨⟨y0, y1, y2, y3, y4⟩, z0, z1, z2, z3, z4⟩ := hSw; go_simp) | skip
                try with_reducible rfl
              try simp only [Act.put, List.getElem_toArray, List.getElem_cons_succ, List.getElem_cons_zero, List.setIfInBounds_toArray, List.set_cons_zero, List.set_cons_succ]
              refine AnyBut.takeS (i := 24) (v := ?v143) rfl (by kernel_rfl) (Nat.le_of_eq (by kernel_rfl)) (by kernel_rfl) (by kernel_rfl) (fun _ _ _ h => h) (HS11.out) (Or.inl ⟨by kernel_rfl, ?hy143⟩) ?r143
              case hy143 =>
                intro w hSw
                try dsimp only at hSw
                go_simp
                first | (obtain ⟨⟨y0, y1, y2, y3, y4⟩, z0, z1, z2, z3, z4⟩ := hSw; go_simp) | skip
                try with_reducible rfl
              try simp only [Act.put, List.getElem_toArray, List.getElem_cons_succ, List.getElem_cons_zero, List.setIfInBounds_toArray, List.set_cons_zero, List.set_cons_succ]
              refine AnyBut.takeS (i := 25) (v := ?v144) rfl (by kernel_rfl) (Nat.le_of_eq (by kernel_rfl)) (by kernel_rfl) (by kernel_rfl) (fun _ _ _ h => h) (HS11.out) (Or.inl ⟨by kernel_rfl, ?hy144⟩) ?r144
              case hy144 =>
                intro w hSw
                try dsimp only at hSw
                go_simp
                first | (obtain ⟨⟨y0, y1, y2, y3, y4⟩, z0, z1, z2, z3, z4⟩ := hSw; go_simp) | skip
                try with_reducible rfl
              try simp only [Act.put, List.getElem_toArray, List.getElem_cons_succ, List.getElem_cons_zero, List.setIfInBounds_toArray, List.set_cons_zero, List.set_cons_succ]
              refine AnyBut.takeS (i := 26) (v := ?v145) rfl (by kernel_rfl) (Nat.le_of_eq (by kernel_rfl)) (by kernel_rfl) (by kernel_rfl) (fun _ _ _ h => h) (HS11.out) (Or.inl ⟨by kernel_rfl, ?hy145⟩) ?r145
              case hy145 =>
                intro w hSw
                try dsimp only at hSw
                go_simp
                first | (obtain ⟨⟨y0, y1, y2, y3, y4⟩, z0, z1, z2, z3, z4⟩ := hSw; go_simp) | skip
                try with_reducible rfl
              try simp only [Act.put, List.getElem_toArray, List.getElem_cons_succ, List.getElem_cons_zero, List.setIfInBounds_toArray, List.set_cons_zero, List.set_cons_succ]
              refine AnyBut.takeS (i := 27) (v := undef) rfl (by kernel_rfl) (Nat.le_of_eq (by kernel_rfl)) (by kernel_rfl) (by kernel_rfl) (fun _ _ _ h => h) (HS11.out) (Or.inr ⟨by kernel_rfl, rfl⟩) ?r146
              try simp only [Act.put, List.getElem_toArray, List.getElem_cons_succ, List.getElem_cons_zero, List.setIfInBounds_toArray, List.set_cons_zero, List.set_cons_succ]
              refine AnyBut.takeS (i := 28) (v := undef) rfl (by kernel_rfl) (Nat.le_of_eq (by kernel_rfl)) (by kernel_rfl) (by kernel_rfl) (fun _ _ _ h => h) (HS11.out) (Or.inr ⟨by kernel_rfl, rfl⟩) ?r147
              try simp only [Act.put, List.getElem_toArray, List.getElem_cons_succ, List.getElem_cons_zero, List.setIfInBounds_toArray, List.set_cons_zero, List.set_cons_succ]
              refine AnyBut.takeS (i := 29) (v := undef) rfl (by kernel_rfl) (Nat.le_of_eq (by kernel_rfl)) (by kernel_rfl) (by kernel_rfl) (fun _ _ _ h => h) (HS11.out) (Or.inr ⟨by kernel_rfl, rfl⟩) ?r148
              try simp only [Act.put, List.getElem_toArray, List.getElem_cons_succ, List.getElem_cons_zero, List.setIfInBounds_toArray, List.set_cons_zero, List.set_cons_succ]
              refine AnyBut.takeS (i := 30) (v := undef) rfl (by kernel_rfl) (Nat.le_of_eq (by kernel_rfl)) (by kernel_rfl) (by kernel_rfl) (fun _ _ _ h => h) (HS11.out) (Or.inr ⟨by kernel_rfl, rfl⟩) ?r149
              try simp only [Act.put, List.getElem_toArray, List.getElem_cons_succ, List.getElem_cons_zero, List.setIfInBounds_toArray, List.set_cons_zero, List.set_cons_succ]
              refine AnyBut.takeS (i := 31) (v := undef) rfl (by kernel_rfl) (Nat.le_of_eq (by kernel_rfl)) (by kernel_rfl) (by kernel_rfl) (fun _ _ _ h => h) (HS11.out) (Or.inr ⟨by kernel_rfl, rfl⟩) ?r150
              try simp only [Act.put, List.getElem_toArray, List.getElem_cons_succ, List.getElem_cons_zero, List.setIfInBounds_toArray, List.set_cons_zero, List.set_cons_succ]
              refine AnyBut.takeS (i := 32) (v := undef) rfl (by kernel_rfl) (Nat.le_of_eq (by kernel_rfl)) (by kernel_rfl) (by kernel_rfl) (fun _ _ _ h => h) (HS11.out) (Or.inr ⟨by kernel_rfl, rfl⟩) ?r151
              try simp only [Act.put, List.getElem_toArray, List.getElem_cons_succ, List.getElem_cons_zero, List.setIfInBounds_toArray, List.set_cons_zero, List.set_cons_succ]
              refine AnyBut.takeS (i := 33) (v := undef) rfl (by kernel_rfl) (Nat.le_of_eq (by kernel_rfl)) (by kernel_rfl) (by kernel_rfl) (fun _ _ _ h => h) (HS11.out) (Or.inr ⟨by kernel_rfl, rfl⟩) ?r152
              try simp only [Act.put, List.getElem_toArray, List.getElem_cons_succ, List.getElem_cons_zero, List.setIfInBounds_toArray, List.set_cons_zero, List.set_cons_succ]
              refine AnyBut.takeS (i := 34) (v := ?v153) rfl (by kernel_rfl) (Nat.le_of_eq (by kernel_rfl)) (by kernel_rfl) (by kernel_rfl) (fun _ _ _ h => h) (HS11.out) (Or.inl ⟨by kernel_rfl, ?hy153⟩) ?r153
              case hy153 =>
                intro w hSw
                try dsimp only at hSw
                go_simp
                first | (obtain ⟨⟨y0, y1, y2, y3, y4⟩, z0, z1, z2, z3, z4⟩ := hSw; go_simp) | skip
                try with_reducible rfl
              try simp only [Act.put, List.getElem_toArray, List.getElem_cons_succ, List.getElem_cons_zero, List.setIfInBounds_toArray, List.set_cons_zero, List.set_cons_succ]
              refine AnyBut.takeS (i := 35) (v := ?v154) rfl (by kernel_rfl) (Nat.le_of_eq (by kernel_rfl)) (by kernel_rfl) (by kernel_rfl) (fun _ _ _ h => h) (HS11.out) (Or.inl ⟨by kernel_rfl, ?hy154⟩) ?r154
              case hy154 =>
                intro w hSw
                try dsimp only at hSw
                go_simp
                first | (obtain ⟨⟨y0, y1, y2, y3, y4⟩, z0, z1, z2, z3, z4⟩ := hSw; go_simp) | skip
                try with_reducible rfl
              try simp only [Act.put, List.getElem_toArray, List.getElem_cons_succ, List.getElem_cons_zero, List.setIfInBounds_toArray, List.set_cons_zero, List.set_cons_succ]
              refine AnyBut.done (by kernel_rfl) ?_
              go_wp2
              go_ret
              exact ⟨rfl, HK02.out.trans HK11.out⟩
            | true =>
              go_upto_region 11 with fail
              refine AnyBut.start (S := fun w' => (w'.cell? ⟨q, 0, none⟩ = some (.string x.name) ∧ w'.cell? ⟨q, 1, none⟩ = some (.slice xaa x.L.length xac) ∧ w'.cell? ⟨q, 2, none⟩ = some (.int .i64 x.kind) ∧ w'.cell? ⟨q, 3, none⟩ = some (.int .i64 x.temp) ∧ w'.cell? ⟨q, 4, none⟩ = some (.bool x.mono)) ∧ (w'.cell? ⟨q + 1, 0, none⟩ = some (.string y.name) ∧ w'.cell? ⟨q + 1, 1, none⟩ = some (.slice yaa y.L.length yac) ∧ w'.cell? ⟨q + 1, 2, none⟩ = some (.int .i64 y.kind) ∧ w'.cell? ⟨q + 1, 3, none⟩ = some (.int .i64 y.temp) ∧ w'.cell? ⟨q + 1, 4, none⟩ = some (.bool y.mono))) (k := 36) (by kernel_rfl) ?_
              refine AnyBut.takeS (i := 0) (v := ?v155) rfl (by kernel_rfl) (Nat.le_of_eq (by kernel_rfl)) (by kernel_rfl) (by kernel_rfl) (fun _ _ _ h => h) (HS11.out) (Or.inl ⟨by kernel_rfl, ?hy155⟩) ?r155
              case hy155 =>
                intro w hSw
                try dsimp only at hSw
                go_simp
                first | (obtain ⟨⟨y0, y1, y2, y3, y4⟩, z0, z1, z2, z3, z4⟩ := hSw; go_simp) | skip
                try with_reducible rfl
              try simp only [Act.put, List.getElem_toArray, List.getElem_cons_zero, List.setIfInBounds_toArray, List.set_cons_zero, List.set_cons_succ]
              refine AnyBut.takeS (i := 1) (v := ?v156) rfl (by kernel_rfl) (Nat.le_of_eq (by kernel_rfl)) (by kernel_rfl) (by kernel_rfl) (fun _ _ _ h => h) (HS11.out) (Or.inl ⟨by kernel_rfl, ?hy156⟩) ?r156
              case hy156 =>
                intro w hSw
                try dsimp only at hSw
                go_simp
                first | (obtain ⟨⟨y0, y1, y2, y3, y4⟩, z0, z1, z2, z3, z4⟩ := hSw; go_simp) | skip
                try with_reducible rfl
              try simp only [Act.put, List.getElem_toArray, List.getElem_cons_succ, List.getElem_cons_zero, List.setIfInBounds_toArray, List.set_cons_zero, List.set_cons_succ]
              refine AnyBut.takeS (i := 2) (v := ?v157) rfl (by kernel_rfl) (Nat.le_of_eq (by kernel_rfl)) (by kernel_rfl) (by kernel_rfl) (fun _ _ _ h => h) (HS11.out) (Or.inl ⟨by kernel_rfl, ?hy157⟩) ?r157
              case hy157 =>
                intro w hSw
                try dsimp only at hSw
                go_simp
                first | (obtain ⟨⟨y0, y1, y2, y3, y4⟩, z0, z1, z2, z3, z4⟩ := hSw; go_simp) | skip
                try with_reducible rfl
              try simp only [Act.put, List.getElem_toArray, List.getElem_cons_succ, List.getElem_cons_zero, List.setIfInBounds_toArray, List.set_cons_zero, List.set_cons_succ]
              refine AnyBut.takeS (i := 3) (v := ?v158) rfl (by kernel_rfl) (Nat.le_of_eq (by kernel_rfl)) (by kernel_rfl) (by kernel_rfl) (fun _ _ _ h => h) (HS11.out) (Or.inl ⟨by kernel_rfl, ?hy158⟩) ?r158
              case hy158 =>
                intro w hSw
                try dsimp only at hSw
                go_simp
                first | (obtain ⟨⟨y0, y1, y2, y3, y4⟩, z0, z1, z2, z3, z4⟩ := hSw; go_simp) | skip
                try with_reducible rfl
              try simp only [Act.put, List.getElem_toArray, List.getElem_cons_succ, List.getElem_cons_zero, List.setIfInBounds_toArray, List.set_cons_zero, List.set_cons_succ]
              refine AnyBut.takeS (i := 4) (v := ?v159) rfl (by kernel_rfl) (Nat.le_of_eq (by kernel_rfl)) (by kernel_rfl) (by kernel_rfl) (fun _ _ _ h => h) (HS11.out) (Or.inl ⟨by kernel_rfl, ?hy159⟩) ?r159
              case hy159 =>
                intro w hSw
                try dsimp only at hSw
                go_simp
                first | (obtain ⟨⟨y0, y1, y2, y3, y4⟩, z0, z1, z2, z3, z4⟩ := hSw; go_simp) | skip
                try with_reducible rfl
              try simp only [Act.put, List.getElem_toArray, List.getElem_cons_succ, List.getElem_cons_zero, List.setIfInBounds_toArray, List.set_cons_zero, List.set_cons_succ]
              refine AnyBut.takeS (i := 5) (v := ?v160) rfl (by kernel_rfl) (Nat.le_of_eq (by kernel_rfl)) (by kernel_rfl) (by kernel_rfl) (fun _ _ _ h => h) (HS11.out) (Or.inl ⟨by kernel_rfl, ?hy160⟩) ?r160
              case hy160 =>
                intro w hSw
                try dsimp only at hSw
                go_simp
                first | (obtain ⟨⟨y0, y1, y2, y3, y4⟩, z0, z1, z2, z3, z4⟩ := hSw; go_simp) | skip
                try with_reducible rfl
              try simp only [Act.put, List.getElem_toArray, List.getElem_cons_succ, List.getElem_cons_zero, List.setIfInBounds_toArray, List.set_cons_zero, List.set_cons_succ]
              refine AnyBut.takeS (i := 6) (v := ?v161) rfl (by kernel_rfl) (Nat.le_of_eq (by kernel_rfl)) (by kernel_rfl) (by kernel_rfl) (fun _ _ _ h => h) (HS11.out) (Or.inl ⟨by kernel_rfl, ?hy161⟩) ?r161
              case hy161 =>
                intro w hSw
                try dsimp only at hSw
                go_simp
                first | (obtain ⟨⟨y0, y1, y2, y3, y4⟩, z0, z1, z2, z3, z4⟩ := hSw; go_simp) | skip
                try with_reducible rfl
              try simp only [Act.put, List.getElem_toArray, List.getElem_cons_succ, List.getElem_cons_zero, List.setIfInBounds_toArray, List.set_cons_zero, List.set_cons_succ]
              refine AnyBut.takeS (i := 7) (v := ?v162) rfl (by kernel_rfl) (Nat.le_of_eq (by kernel_rfl)) (by kernel_rfl) (by kernel_rfl) (fun _ _ _ h => h) (HS11.out) (Or.inl ⟨by kernel_rfl, ?hy162⟩) ?r162
              case hy162 =>
                intro w hSw
                try dsimp only at hSw
                go_simp
                first | (obtain ⟨⟨y0, y1, y2, y3, y4⟩, z0, z1, z2, z3, z4⟩ := hSw; go_simp) | skip
                try with_reducible rfl
              try simp only [Act.put, List.getElem_toArray, List.getElem_cons_succ, List.getElem_cons_zero, List.setIfInBounds_toArray, List.set_cons_zero, List.set_cons_succ]
              refine AnyBut.takeS (i := 8) (v := ?v163) rfl (by kernel_rfl) (Nat.le_of_eq (by kernel_rfl)) (by kernel_rfl) (by kernel_rfl) (fun _ _ _ h => h) (HS11.out) (Or.inl ⟨by kernel_rfl, ?hy163⟩) ?r163
              case hy163 =>
                intro w hSw
                try dsimp only at hSw
                go_simp
                first | (obtain ⟨⟨y0, y1, y2, y3, y4⟩, z0, z1, z2, z3, z4⟩ := hSw; go_simp) | skip
                try with_reducible rfl
              try simp only [Act.put, List.getElem_toArray, List.getElem_cons_succ, List.getElem_cons_zero, List.setIfInBounds_toArray, List.set_cons_zero, List.set_cons_succ]
              refine AnyBut.takeS (i := 9) (v := ?v164) rfl (by kernel_rfl) (Nat.le_of_eq (by kernel_rfl)) (by kernel_rfl) (by kernel_rfl) (fun _ _ _ h => h) (HS11.out) (Or.inl ⟨by kernel_rfl, ?hy164⟩) ?r164
              case hy164 =>
                intro w hSw
                try dsimp only at hSw
                go_simp
                first | (obtain ⟨⟨y0, y1, y2, y3, y4⟩, z0, z1, z2, z3, z4⟩ := hSw; go_simp) | skip
                try with_reducible rfl
              try simp only [Act.put, List.getElem_toArray, List.getElem_cons_succ, List.getElem_cons_zero, List.setIfInBounds_toArray, List.set_cons_zero, List.set_cons_succ]
              refine AnyBut.takeS (i := 10) (v := ?v165) rfl (by kernel_rfl) (Nat.le_of_eq (by kernel_rfl)) (by kernel_rfl) (by kernel_rfl) (fun _ _ _ h => h) (HS11.out) (Or.inl ⟨by kernel_rfl, ?hy165⟩) ?r165
              case hy165 =>
                intro w hSw
                try dsimp only at hSw
                go_simp
                first | (obtain ⟨⟨y0, y1, y2, y3, y4⟩, z0, z1, z2, z3, z4⟩ := hSw; go_simp) | skip
                try with_reducible rfl
              try simp only [Act.put, List.getElem_toArray, List.getElem_cons_succ, List.getElem_cons_zero, List.setIfInBounds_toArray, List.set_cons_zero, List.set_cons_succ]
              refine AnyBut.takeS (i := 11) (v := ?v166) rfl (by kernel_rfl) (Nat.le_of_eq (by kernel_rfl)) (by kernel_rfl) (by kernel_rfl) (fun _ _ _ h => h) (HS11.out) (Or.inl ⟨by kernel_rfl, ?hy166⟩) ?r166
              case hy166 =>
                intro w hSw
                try dsimp only at hSw
                go_simp
                first | (obtain ⟨⟨y0, y1, y2, y3, y4⟩, z0, z1, z2, z3, z4⟩ := hSw; go_simp) | skip
                try with_reducible rfl
              try simp only [Act.put, List.getElem_toArray, List.getElem_cons_succ, List.getElem_cons_zero, List.setIfInBounds_toArray, List.set_cons_zero, List.set_cons_succ]
              refine AnyBut.takeS (i := 12) (v := ?v167) rfl (by kernel_rfl) (Nat.le_of_eq (by kernel_rfl)) (by kernel_rfl) (by kernel_rfl) (fun _ _ _ h => h) (HS11.out) (Or.inl ⟨by kernel_rfl, ?hy167⟩) ?r167
              case hy167 =>
                intro w hSw
                try dsimp only at hSw
                go_simp
                first | (obtain ⟨⟨y0, y1, y2, y3, y4⟩, z0, z1, z2, z3, z4⟩ := hSw; go_simp) | skip
                try with_reducible rfl
              try simp only [Act.put, List.getElem_toArray, List.getElem_cons_succ, List.getElem_cons_zero, List.setIfInBounds_toArray, List.set_cons_zero, List.set_cons_succ]
              refine AnyBut.takeS (i := 13) (v := ?v168) rfl (by kernel_rfl) (Nat.le_of_eq (by kernel_rfl)) (by kernel_rfl) (by kernel_rfl) (fun _ _ _ h => h) (HS11.out) (Or.inl ⟨by kernel_rfl, ?hy168⟩) ?r168
              case hy168 =>
                intro w hSw
                try dsimp only at hSw
                go_simp
                first | (obtain ⟨⟨y0, y1, y2, y3, y4⟩, z0, z1, z2, z3, z4⟩ := hSw; go_simp) | skip
                try with_reducible rfl
              try simp only [Act.put, List.getElem_toArray, List.getElem_cons_succ, List.getElem_cons_zero, List.setIfInBounds_toArray, List.set_cons_zero, List.set_cons_succ]
              refine AnyBut.takeS (i := 14) (v := ?v169) rfl (by kernel_rfl) (Nat.le_of_eq (by kernel_rfl)) (by kernel_rfl) (by kernel_rfl) (fun _ _ _ h => h) (HS11.out) (Or.inl ⟨by kernel_rfl, ?hy169⟩) ?r169
              case hy169 =>
                intro w hSw
                try dsimp only at hSw
                go_simp
                first | (obtain ⟨⟨y0, y1, y2, y3, y4⟩, z0, z1, z2, z3, z4⟩ := hSw; go_simp) | skip
                try with_reducible rfl
              try simp only [Act.put, List.getElem_toArray, List.getElem_cons_succ, List.getElem_cons_zero, List.setIfInBounds_toArray, List.set_cons_zero, List.set_cons_succ]
              refine AnyBut.takeS (i := 15) (v := ?v170) rfl (by kernel_rfl) (Nat.le_of_eq (by kernel_rfl)) (by kernel_rfl) (by kernel_rfl) (fun _ _ _ h => h) (HS11.out) (Or.inl ⟨by kernel_rfl, ?hy170⟩) ?r170
              case hy170 =>
                intro w hSw
                try dsimp only at hSw
                go_simp
                first | (obtain ⟨⟨y0, y1, y2, y3, y4⟩, z0, z1, z2, z3, z4⟩ := hSw; go_simp) | skip
                try with_reducible rfl
              try simp only [Act.put, List.getElem_toArray, List.getElem_cons_succ, List.getElem_cons_zero, List.setIfInBounds_toArray, List.set_cons_zero, List.set_cons_succ]
              refine AnyBut.takeS (i := 16) (v := ?v171) rfl (by kernel_rfl) (Nat.le_of_eq (by kernel_rfl)) (by kernel_rfl) (by kernel_rfl) (fun _ _ _ h => h) (HS11.out) (Or.inl ⟨by kernel_rfl, ?hy171⟩) ?r171
              case hy171 =>
                intro w hSw
                try dsimp only at hSw
                go_simp
                first | (obtain ⟨⟨y0, y1, y2, y3, y4⟩, z0, z1, z2, z3, z4⟩ := hSw; go_simp) | skip
                try with_reducible rfl
              try simp only [Act.put, List.getElem_toArray, List.getElem_cons_succ, List.getElem_cons_zero, List.setIfInBounds_toArray, List.set_cons_zero, List.set_cons_succ]
              refine AnyBut.takeS (i := 17) (v := ?v172) rfl (by kernel_rfl) (Nat.le_of_eq (by kernel_rfl)) (by kernel_rfl) (by kernel_rfl) (fun _ _ _ h => h) (HS11.out) (Or.inl ⟨by kernel_rfl, ?hy172⟩) ?r172
              case hy172 =>
                intro w hSw
                try dsimp only at hSw
                go_simp
                first | (obtain ⟨⟨y0, y1, y2, y3, y4⟩, z0, z1, z2, z3, z4⟩ := hSw; go_simp) | skip
                try with_reducible rfl
              try simp only [Act.put, List.getElem_toArray, List.getElem_cons_succ, List.getElem_cons_zero, List.setIfInBounds_toArray, List.set_cons_zero, List.set_cons_succ]
              refine AnyBut.takeS (i := 18) (v := ?v173) rfl (by kernel_rfl) (Nat.le_of_eq (by kernel_rfl)) (by kernel_rfl) (by kernel_rfl) (fun _ _ _ h => h) (HS11.out) (Or.inl ⟨by kernel_rfl, ?hy173⟩) ?r173
              case hy173 =>
                intro w hSw
                try dsimp only at hSw
                go_simp
                first | (obtain ⟨⟨y0, y1, y2, y3, y4⟩, z0, z1, z2, z3, z4⟩ := hSw; go_simp) | skip
                try with_reducible rfl
              try simp only [Act.put, List.getElem_toArray, List.getElem_cons_succ, List.getElem_cons_zero, List.setIfInBounds_toArray, List.set_cons_zero, List.set_cons_succ]
              refine AnyBut.takeS (i := 19) (v := ?v174) rfl (by kernel_rfl) (Nat.le_of_eq (by kernel_rfl)) (by kernel_rfl) (by kernel_rfl) (fun _ _ _ h => h) (HS11.out) (Or.inl ⟨by kernel_rfl, ?hy174⟩) ?r174
              case hy174 =>
                intro w hSw
                try dsimp only at hSw
                go_simp
                first | (obtain ⟨⟨y0, y1, y2, y3, y4⟩, z0, z1, z2, z3, z4⟩ := hSw; go_simp) | skip
                try with_reducible rfl
              try simp only [Act.put, List.getElem_toArray, List.getElem_cons_succ, List.getElem_cons_zero, List.setIfInBounds_toArray, List.set_cons_zero, List.set_cons_succ]
              refine AnyBut.takeS (i := 20) (v := ?v175) rfl (by kernel_rfl) (Nat.le_of_eq (by kernel_rfl)) (by kernel_rfl) (by kernel_rfl) (fun _ _ _ h => h) (HS11.out) (Or.inl ⟨by kernel_rfl, ?hy175⟩) ?r175
              case hy175 =>
                intro w hSw
                try dsimp only at hSw
                go_simp
                first | (obtain ⟨⟨y0, y1, y2, y3, y4⟩, z0, z1, z2, z3, z4⟩ := hSw; go_simp) | skip
                try with_reducible rfl
              try simp only [Act.put, List.getElem_toArray, List.getElem_cons_succ, List.getElem_cons_zero, List.setIfInBounds_toArray, List.set_cons_zero, List.set_cons_succ]
              refine AnyBut.takeS (i := 21) (v := ?v176) rfl (by kernel_rfl) (Nat.le_of_eq (by kernel_rfl)) (by kernel_rfl) (by kernel_rfl) (fun _ _ _ h => h) (HS11.out) (Or.inl ⟨by kernel_rfl, ?hy176⟩) ?r176
              case hy176 =>
                intro w hSw
                try dsimp only at hSw
                go_simp
                first | (obtain ⟨⟨y0, y1, y2, y3, y4⟩, z0, z1, z2, z3, z4⟩ := hSw; go_simp) | skip
                try with_reducible rfl
              try simp only [Act.put, List.getElem_toArray, List.getElem_cons_succ, List.getElem_cons_zero, List.setIfInBounds_toArray, List.set_cons_zero, List.set_cons_succ]
              refine AnyBut.takeS (i := 22) (v := ?v177) rfl (by kernel_rfl) (Nat.le_of_eq (by kernel_rfl)) (by kernel_rfl) (by kernel_rfl) (fun _ _ _ h => h) (HS11.out) (Or.inl ⟨by kernel_rfl, ?hy177⟩) ?r177
              case hy177 =>
                intro w hSw
                try dsimp only at hSw
                go_simp
                first | (obtain ⟨⟨y0, y1, y2, y3, y4⟩, z0, z1, z2, z3, z4⟩ := hSw; go_simp) | skip
                try with_reducible rfl
              try simp only [Act.put, List.getElem_toArray, List.getElem_cons_succ, List.getElem_cons_zero, List.setIfInBounds_toArray, List.set_cons_zero, List.set_cons_succ]
              refine AnyBut.takeS (i := 23) (v := ?v178) rfl (by kernel_rfl) (Nat.le_of_eq (by kernel_rfl)) (by kernel_rfl) (by kernel_rfl) (fun _ _ _ h => h) (HS11.out) (Or.inl ⟨by kernel_rfl, ?hy178⟩) ?r178
              case hy178 =>
                intro w hSw
                try dsimp only at hSw
                go_simp
                first | (obtain ⟨⟨y0, y1, y2, y3, y4⟩, z0, z1, z2, z3, z4⟩ := hSw; go_simp) | skip
                try with_reducible rfl
              try simp only [Act.put, List.getElem_toArray, List.getElem_cons_succ, List.getElem_cons_zero, List.setIfInBounds_toArray, List.set_cons_zero, List.set_cons_succ]
              refine AnyBut.takeS (i := 24) (v := ?v179) rfl (by kernel_rfl) (Nat.le_of_eq (by kernel_rfl)) (by kernel_rfl) (by kernel_rfl) (fun _ _ _ h => h) (HS11.out) (Or.inl ⟨by kernel_rfl, ?hy179⟩) ?r179
              case hy179 =>
                intro w hSw
                try dsimp only at hSw
                go_simp
                first | (obtain ⟨⟨y0, y1, y2, y3, y4⟩, z0, z1, z2, z3, z4⟩ := hSw; go_simp) | skip
                try with_reducible rfl
              try simp only [Act.put, List.getElem_toArray, List.getElem_cons_succ, List.getElem_cons_zero, List.setIfInBounds_toArray, List.set_cons_zero, List.set_cons_succ]
              refine AnyBut.takeS (i := 25) (v := ?v180) rfl (by kernel_rfl) (Nat.le_of_eq (by kernel_rfl)) (by kernel_rfl) (by kernel_rfl) (fun _ _ _ h => h) (HS11.out) (Or.inl ⟨by kernel_rfl, ?hy180⟩) ?r180
              case hy180 =>
                intro w hSw
                try dsimp only at hSw
                go_simp
                first | (obtain ⟨⟨y0, y1, y2, y3, y4⟩, z0, z1, z2, z3, z4⟩ := hSw; go_simp) | skip
                try with_reducible rfl
              try simp only [Act.put, List.getElem_toArray, List.getElem_cons_succ, List.getElem_cons_zero, List.setIfInBounds_toArray, List.set_cons_zero, List.set_cons_succ]
              refine AnyBut.takeS (i := 26) (v := ?v181) rfl (by kernel_rfl) (Nat.le_of_eq (by kernel_rfl)) (by kernel_rfl) (by kernel_rfl) (fun _ _ _ h => h) (HS11.out) (Or.inl ⟨by kernel_rfl, ?hy181⟩) ?r181
              case hy181 =>
                intro w hSw
                try dsimp only at hSw
                go_simp
                first | (obtain ⟨⟨y0, y1, y2, y3, y4⟩, z0, z1, z2, z3, z4⟩ := hSw; go_simp) | skip
                try with_reducible rfl
              try simp only [Act.put, List.getElem_toArray, List.getElem_cons_succ, List.getElem_cons_zero, List.setIfInBounds_toArray, List.set_cons_zero, List.set_cons_succ]
              refine AnyBut.takeS (i := 27) (v := ?v182) rfl (by kernel_rfl) (Nat.le_of_eq (by kernel_rfl)) (by kernel_rfl) (by kernel_rfl) (fun _ _ _ h => h) (HS11.out) (Or.inl ⟨by kernel_rfl, ?hy182⟩) ?r182
              case hy182 =>
                intro w hSw
                try dsimp only at hSw
                go_simp
                first | (obtain ⟨⟨y0, y1, y2, y3, y4⟩, z0, z1, z2, z3, z4⟩ := hSw; go_simp) | skip
                try with_reducible rfl
              try simp only [Act.put, List.getElem_toArray, List.getElem_cons_succ, List.getElem_cons_zero, List.setIfInBounds_toArray, List.set_cons_zero, List.set_cons_succ]
              refine AnyBut.takeS (i := 28) (v := ?v183) rfl (by kernel_rfl) (Nat.le_of_eq (by kernel_rfl)) (by kernel_rfl) (by kernel_rfl) (fun _ _ _ h => h) (HS11.out) (Or.inl ⟨by kernel_rfl, ?hy183⟩) ?r183
              case hy183 =>
                intro w hSw
                try dsimp only at hSw
                go_simp
                first | (obtain ⟨⟨y0, y1, y2, y3, y4⟩, z0, z1, z2, z3, z4⟩ := hSw; go_simp) | skip
                try with_reducible rfl
              try simp only [Act.put, List.getElem_toArray, List.getElem_cons_succ, List.getElem_cons_zero, List.setIfInBounds_toArray, List.set_cons_zero, List.set_cons_succ]
              refine AnyBut.takeS (i := 30) (v := ?v184) rfl (by kernel_rfl) (Nat.le_of_eq (by kernel_rfl)) (by kernel_rfl) (by kernel_rfl) (fun _ _ _ h => h) (HS11.out) (Or.inl ⟨by kernel_rfl, ?hy184⟩) ?r184
              case hy184 =>
                intro w hSw
                try dsimp only at hSw
                go_simp
                first | (obtain ⟨⟨y0, y1, y2, y3, y4⟩, z0, z1, z2, z3, z4⟩ := hSw; go_simp) | skip
                try with_reducible rfl
              try simp only [Act.put, List.getElem_toArray, List.getElem_cons_succ, List.getElem_cons_zero, List.setIfInBounds_toArray, List.set_cons_zero, List.set_cons_succ]
              refine AnyBut.takeS (i := 31) (v := ?v185) rfl (by kernel_rfl) (Nat.le_of_eq (by kernel_rfl)) (by kernel_rfl) (by kernel_rfl) (fun _ _ _ h => h) (HS11.out) (Or.inl ⟨by kernel_rfl, ?hy185⟩) ?r185
              case hy185 =>
                intro w hSw
                try dsimp only at hSw
                go_simp
                first | (obtain ⟨⟨y0, y1, y2, y3, y4⟩, z0, z1, z2, z3, z4⟩ := hSw; go_simp) | skip
                try with_reducible rfl
              try simp only [Act.put, List.getElem_toArray, List.getElem_cons_succ, List.getElem_cons_zero, List.setIfInBounds_toArray, List.set_cons_zero, List.set_cons_succ]
              refine AnyBut.one (i := 29) (by kernel_rfl) rfl (fun K hK => ?_)
              go_simp
              go_wp2_with fail
              refine (HSX.out _ HK11.out).mono ?_
              rintro e w14 ⟨v29, rfl, m29⟩
              obtain ⟨a29, c29, rfl⟩ := m29.slice
              have HK29 := Lib.hid (HK11.out.trans m29.kept)
              have HM29 := Lib.hid m29
              have HS29 := Lib.hid (HSS.out w14 HK29.out)
              clear m29
              go_wp2
              refine hK.out _ _ (HS29.out) ?_
              clear hK K
              try simp only [Act.put, List.getElem_toArray, List.getElem_cons_succ, List.getElem_cons_zero, List.setIfInBounds_toArray, List.set_cons_zero, List.set_cons_succ]
              refine AnyBut.one (i := 32) (by kernel_rfl) rfl (fun K hK => ?_)
              go_simp
              go_wp2_with fail
              refine (HSY.out _ HK29.out).mono ?_
              rintro e w15 ⟨v32, rfl, m32⟩
              obtain ⟨a32, c32, rfl⟩ := m32.slice
              have HK32 := Lib.hid (HK29.out.trans m32.kept)
              have HM32 := Lib.hid m32
              have HS32 := Lib.hid (HSS.out w15 HK32.out)
              clear m32
              go_wp2
              refine hK.out _ _ (HS32.out) ?_
              clear hK K
              try simp only [Act.put, List.getElem_toArray, List.getElem_cons_succ, List.getElem_cons_zero, List.setIfInBounds_toArray, List.set_cons_zero, List.set_cons_succ]
              refine AnyBut.one (i := 33) (by kernel_rfl) rfl (fun K hK => ?_)
              go_simp
              go_wp2_with fail
              refine (HEQ.out a29 a32 c29 c32 _ (HM29.out.at_.kept HM32.out.kept) HM32.out.at_).mono ?_
              rintro e w16 ⟨rfl, k33⟩
              have HK33 := Lib.hid (HK32.out.trans k33)
              have HS33 := Lib.hid (HSS.out w16 HK33.out)
              clear k33
              go_wp2
              refine hK.out _ _ (HS33.out) ?_
              clear hK K
              try simp only [Act.put, List.getElem_toArray, List.getElem_cons_succ, List.getElem_cons_zero, List.setIfInBounds_toArray, List.set_cons_zero, List.set_cons_succ]
              refine AnyBut.takeS (i := 34) (v := ?v186) rfl (by kernel_rfl) (Nat.le_of_eq (by kernel_rfl)) (by kernel_rfl) (by kernel_rfl) (fun _ _ _ h => h) (HS33.out) (Or.inl ⟨by kernel_rfl, ?hy186⟩) ?r186
              case hy186 =>
                intro w hSw
                try dsimp only at hSw
                go_simp
                first | (obtain ⟨⟨y0, y1, y2, y3, y4⟩, z0, z1, z2, z3, z4⟩ := hSw; go_simp) | skip
                try with_reducible rfl
              try simp only [Act.put, List.getElem_toArray, List.getElem_cons_succ, List.getElem_cons_zero, List.setIfInBounds_toArray, List.set_cons_zero, List.set_cons_succ]
              refine AnyBut.takeS (i := 35) (v := ?v187) rfl (by kernel_rfl) (Nat.le_of_eq (by kernel_rfl)) (by kernel_rfl) (by kernel_rfl) (fun _ _ _ h => h) (HS33.out) (Or.inl ⟨by kernel_rfl, ?hy187⟩) ?r187
              case hy187 =>
                intro w hSw
                try dsimp only at hSw
                go_simp
                first | (obtain ⟨⟨y0, y1, y2, y3, y4⟩, z0, z1, z2, z3, z4⟩ := hSw; go_simp) | skip
                try with_reducible rfl
              try simp only [Act.put, List.getElem_toArray, List.getElem_cons_succ, List.getElem_cons_zero, List.setIfInBounds_toArray, List.set_cons_zero, List.set_cons_succ]
              refine AnyBut.done (by kernel_rfl) ?_
              have HRR : Hid ((s1.toList == s2.toList) = SB) := Lib.hid (by rw [HKA.out]; unfold alikeP; rw [← HSB.out, hnm, hbk, hbt, hbm]; rfl)
              have hrr := HRR.out
              cases SB with
              | false =>
                go_wp2
                go_ret
                exact ⟨rfl, HK02.out.trans HK33.out⟩
              | true =>
                go_wp2
                go_ret
                exact ⟨rfl, HK02.out.trans HK33.out⟩
end Go.Proofs.YteflepcmblacaaaGreatDoor
