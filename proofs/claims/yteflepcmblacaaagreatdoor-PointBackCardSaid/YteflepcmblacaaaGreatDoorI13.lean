/- Layer 12: which points are the same, as the document says (written by tools/gen_XI13.py). -/
import Derived.Test.YteflepcmblacaaaGreatDoorI12
namespace Go.Proofs.YteflepcmblacaaaGreatDoor
open Go.RowKit
attribute [local go_sem ↓] Go.wp_at_zero Go.wp_at_succ

set_option maxRecDepth 100000 in
set_option maxHeartbeats 8000000 in
theorem refSameP_any (x y : Pnt) (xaa xpa xna yaa ypa yna : Option Addr) (xac xpc xnc yac ypc ync : Nat) (w : World) (hx : PntAt w x xaa xac (.slice xpa x.h.pl.length xpc) (.slice xna x.h.nl.length xnc)) (hy : PntAt w y yaa yac (.slice ypa y.h.pl.length ypc) (.slice yna y.h.nl.length ync)) (hlx : x.light) (hly : y.light) :
    Calls Tryz.prog 11 #[pntV x (.slice xaa x.L.length xac) (.slice xpa x.h.pl.length xpc) (.slice xna x.h.nl.length xnc), pntV y (.slice yaa y.L.length yac) (.slice ypa y.h.pl.length ypc) (.slice yna y.h.nl.length ync)] w fun e w' => e = .returned (.bool (sameP x y)) ∧ Kept (fun _ => False) w w' := by
  obtain ⟨w2, hw2⟩ : ∃ w2, w2 = (w.alloc (.cells (pntC x (.slice xaa x.L.length xac) (.slice xpa x.h.pl.length xpc) (.slice xna x.h.nl.length xnc)) 30)).alloc (.cells (pntC y (.slice yaa y.L.length yac) (.slice ypa y.h.pl.length ypc) (.slice yna y.h.nl.length ync)) 30) := ⟨_, rfl⟩
  have k2 : Kept (fun _ => False) w w2 := by rw [hw2]; exact ((Kept.refl _ _).alloc _).alloc _
  have HSX := Lib.hid (fun w' (k : Kept (fun _ => False) w2 w') => refSorted11_any xaa xac x.L w' (hx.ps.kept (k2.trans k)) (by have := hlx.len; omega))
  have HSY := Lib.hid (fun w' (k : Kept (fun _ => False) w2 w') => refSorted11_any yaa yac y.L w' (hy.ps.kept (k2.trans k)) (by have := hly.len; omega))
  have HHS := Lib.hid (fun w' (k : Kept (fun _ => False) w2 w') => refSame_any x.h y.h _ _ _ _ w' (hx.hist.on (k2.trans k)) (hy.hist.on (k2.trans k)) (by have := hlx.pl; omega) (by have := hlx.nl; omega))
  have HLL : Hid ((sortP x.L).length ≤ 1000000) := Lib.hid (by rw [(sortP_perm x.L).length_eq]; have := hlx.len; omega)
  have hres : sameP x y = (((x.name.toList == y.name.toList) && ((x.kind == y.kind) && ((x.temp == y.temp) && ((x.mono == y.mono) && ((x.start == y.start) && ((x.time == y.time) && ((x.whole == y.whole) && ((x.re == y.re) && ((x.im == y.im) && (x.flags == y.flags)))))))))) && (sameL (sortP x.L) (sortP y.L) && decide (sameH x.h y.h))) := rfl
  rw [hres]
  obtain ⟨SB, hSB⟩ : ∃ b, b = sameL (sortP x.L) (sortP y.L) := ⟨_, rfl⟩
  obtain ⟨HB, hHB⟩ : ∃ b : Bool, b = decide (sameH x.h y.h) := ⟨_, rfl⟩
  rw [← hHB] at HHS
  rw [← hSB, ← hHB]
  have HSB := Lib.hid hSB
  have hb1 : w2.heap[w.heap.size]? = some (.cells (pntC x (.slice xaa x.L.length xac) (.slice xpa x.h.pl.length xpc) (.slice xna x.h.nl.length xnc)) 30 (0, 0)) := by rw [hw2]; exact ((Kept.refl (fun _ => False) _).alloc _).same (heap_alloc_new w _) (fun x => x)
  have hb2 : w2.heap[w.heap.size + 1]? = some (.cells (pntC y (.slice yaa y.L.length yac) (.slice ypa y.h.pl.length ypc) (.slice yna y.h.nl.length ync)) 30 (0, 0)) := by rw [hw2]; exact box_second2 w _ _
  clear hSB hHB hres hx hy hlx hly
  unfold pntV pntC
  unfold pntC at hb1 hb2 hw2
  unfold histV at HHS
  obtain ⟨xname, xL, xkind, xtemp, xmono, xstart, xtime, xwhole, xre, xim, ⟨xsc, xze, xpo, xpl, xno, xnl⟩, xflags⟩ := x
  obtain ⟨yname, yL, ykind, ytemp, ymono, ystart, ytime, ywhole, yre, yim, ⟨ysc, yze, ypo, ypl, yno, ynl⟩, yflags⟩ := y
  dsimp only at HSX HSY HHS HLL HSB hb1 hb2 hw2 ⊢
  obtain ⟨xal, h1⟩ : ∃ m, m = xL.length := ⟨_, rfl⟩
  obtain ⟨xm, h2⟩ : ∃ m, m = xpl.length := ⟨_, rfl⟩
  obtain ⟨xn, h3⟩ : ∃ m, m = xnl.length := ⟨_, rfl⟩
  obtain ⟨yal, h4⟩ : ∃ m, m = yL.length := ⟨_, rfl⟩
  obtain ⟨ym, h5⟩ : ∃ m, m = ypl.length := ⟨_, rfl⟩
  obtain ⟨yn, h6⟩ : ∃ m, m = ynl.length := ⟨_, rfl⟩
  rw [← h1] at HSX
  rw [← h4] at HSY
  rw [← h2, ← h3, ← h5, ← h6] at HHS
  rw [← h1, ← h2, ← h3] at hb1
  rw [← h4, ← h5, ← h6] at hb2
  rw [← h1, ← h2, ← h3, ← h4, ← h5, ← h6] at hw2 ⊢
  obtain ⟨q, hq⟩ : ∃ q, q = w.heap.size := ⟨_, rfl⟩
  rw [← hq] at hb1 hb2
  have HSS : Hid (∀ w', Kept (fun _ => False) w2 w' → (fun w' => w'.cell? ⟨q, 0, none⟩ = some (.string xname) ∧ w'.cell? ⟨q, 1, none⟩ = some (.slice xaa xal xac) ∧ w'.cell? ⟨q + 1, 0, none⟩ = some (.string yname) ∧ w'.cell? ⟨q + 1, 1, none⟩ = some (.slice yaa yal yac)) w') := Lib.hid (fun w' k => by
    have a := k.same hb1 (fun x => x)
    have b := k.same hb2 (fun x => x)
    exact ⟨cell_rowZ 0 _ a rfl, cell_rowZ 1 _ a rfl, cell_rowZ 0 _ b rfl, cell_rowZ 1 _ b rfl⟩)
  have HBX : Hid (∀ w', Kept (fun _ => False) w2 w' → w'.heap[q]? = some (.cells #[.string xname, .slice xaa xal xac, .int .i64 xkind, .int .i64 xtemp, .bool xmono, .int .i64 xstart, .int .i64 xtime, .int .i64 xwhole, .int .u64 xre, .int .u64 xim, .int .i64 xsc, .int .u64 (xze : Int), .int .i64 xpo, .slice xpa xm xpc, .int .i64 xno, .slice xna xn xnc, .int .i64 xflags] 30 (0, 0)) ∧ w'.heap[q + 1]? = some (.cells #[.string yname, .slice yaa yal yac, .int .i64 ykind, .int .i64 ytemp, .bool ymono, .int .i64 ystart, .int .i64 ytime, .int .i64 ywhole, .int .u64 yre, .int .u64 yim, .int .i64 ysc, .int .u64 (yze : Int), .int .i64 ypo, .slice ypa ym ypc, .int .i64 yno, .slice yna yn ync, .int .i64 yflags] 30 (0, 0))) := Lib.hid (fun w' k => ⟨k.same hb1 (fun x => x), k.same hb2 (fun x => x)⟩)
  have HEQ := Lib.hid (fun (ao bo : Option Addr) (c d : Nat) (w : World) (ha : PsAt w ao (sortP xL)) (hb : PsAt w bo (sortP yL)) => refSame11_any ao bo c d (sortP xL) (sortP yL) w ha hb (by have := HLL.out; omega))
  rw [← HSB.out] at HEQ
  have HW2 := Lib.hid (And.intro hw2 hq)
  have HK2 := Lib.hid k2
  have HK0 : Hid (Kept (fun _ => False) w2 w2.drew) := Lib.hid ((Kept.refl _ _).drew)
  have HS0 := Lib.hid (HSS.out w2.drew HK0.out)
  clear h1 h2 h3 h4 h5 h6 hb1 hb2 hw2 hq k2
  obtain ⟨RS, hRS⟩ : ∃ RS, RS = ((xname.toList == yname.toList) && ((xkind == ykind) && ((xtemp == ytemp) && ((xmono == ymono) && ((xstart == ystart) && ((xtime == ytime) && ((xwhole == ywhole) && ((xre == yre) && ((xim == yim) && (xflags == yflags))))))))) && (SB && HB)) := ⟨_, rfl⟩
  rw [← hRS]
  have HRS := Lib.hid hRS
  clear hRS
  cases hnm : (xname.toList == yname.toList) with
  | false =>
    have nnm : (xname.toList != yname.toList) = true := by unfold bne; rw [hnm]; rfl
    go_enter Tryz.func11, Tryz.ntmps11
    go_upto_region 1 with fail
    rw [← HW2.out.1, ← HW2.out.2]
    refine AnyBut.start (S := fun w' => w'.cell? ⟨q, 0, none⟩ = some (.string xname) ∧ w'.cell? ⟨q, 1, none⟩ = some (.slice xaa xal xac) ∧ w'.cell? ⟨q + 1, 0, none⟩ = some (.string yname) ∧ w'.cell? ⟨q + 1, 1, none⟩ = some (.slice yaa yal yac)) (k := 15) (by kernel_rfl) ?_
    refine AnyBut.takeS (i := 0) (v := ?v1) rfl (by kernel_rfl) (Nat.le_of_eq (by kernel_rfl)) (by kernel_rfl) (by kernel_rfl) (fun _ _ _ h => h) (HS0.out) (Or.inl ⟨by kernel_rfl, ?hy1⟩) ?r1
    case hy1 =>
      intro w hSw
      try dsimp only at hSw
      go_simp
      first | (obtain ⟨y0, y1, y2, y3⟩ := hSw; go_simp) | skip
      try with_reducible rfl
    try simp only [Act.put, List.getElem_toArray, List.getElem_cons_zero, List.setIfInBounds_toArray, List.set_cons_zero, List.set_cons_succ]
    refine AnyBut.takeS (i := 1) (v := ?v2) rfl (by kernel_rfl) (Nat.le_of_eq (by kernel_rfl)) (by kernel_rfl) (by kernel_rfl) (fun _ _ _ h => h) (HS0.out) (Or.inl ⟨by kernel_rfl, ?hy2⟩) ?r2
    case hy2 =>
      intro w hSw
      try dsimp only at hSw
      go_simp
      first | (obtain ⟨y0, y1, y2, y3⟩ := hSw; go_simp) | skip
      try with_reducible rfl
    try simp only [Act.put, List.getElem_toArray, List.getElem_cons_succ, List.getElem_cons_zero, List.setIfInBounds_toArray, List.set_cons_zero, List.set_cons_succ]
    refine AnyBut.takeS (i := 2) (v := ?v3) rfl (by kernel_rfl) (Nat.le_of_eq (by kernel_rfl)) (by kernel_rfl) (by kernel_rfl) (fun _ _ _ h => h) (HS0.out) (Or.inl ⟨by kernel_rfl, ?hy3⟩) ?r3
    case hy3 =>
      intro w hSw
      try dsimp only at hSw
      go_simp
      first | (obtain ⟨y0, y1, y2, y3⟩ := hSw; go_simp) | skip
      try with_reducible rfl
    try simp only [Act.put, List.getElem_toArray, List.getElem_cons_succ, List.getElem_cons_zero, List.setIfInBounds_toArray, List.set_cons_zero, List.set_cons_succ]
    refine AnyBut.takeS (i := 3) (v := ?v4) rfl (by kernel_rfl) (Nat.le_of_eq (by kernel_rfl)) (by kernel_rfl) (by kernel_rfl) (fun _ _ _ h => h) (HS0.out) (Or.inl ⟨by kernel_rfl, ?hy4⟩) ?r4
    case hy4 =>
      intro w hSw
      try dsimp only at hSw
      go_simp
      first | (obtain ⟨y0, y1, y2, y3⟩ := hSw; go_simp) | skip
      try with_reducible rfl
    try simp only [Act.put, List.getElem_toArray, List.getElem_cons_succ, List.getElem_cons_zero, List.setIfInBounds_toArray, List.set_cons_zero, List.set_cons_succ]
    refine AnyBut.takeS (i := 4) (v := ?v5) rfl (by kernel_rfl) (Nat.le_of_eq (by kernel_rfl)) (by kernel_rfl) (by kernel_rfl) (fun _ _ _ h => h) (HS0.out) (Or.inl ⟨by kernel_rfl, ?hy5⟩) ?r5
    case hy5 =>
      intro w hSw
      try dsimp only at hSw
      go_simp
      first | (obtain ⟨y0, y1, y2, y3⟩ := hSw; go_simp) | skip
      try with_reducible rfl
    try simp only [Act.put, List.getElem_toArray, List.getElem_cons_succ, List.getElem_cons_zero, List.setIfInBounds_toArray, List.set_cons_zero, List.set_cons_succ]
    refine AnyBut.takeS (i := 5) (v := ?v6) rfl (by kernel_rfl) (Nat.le_of_eq (by kernel_rfl)) (by kernel_rfl) (by kernel_rfl) (fun _ _ _ h => h) (HS0.out) (Or.inl ⟨by kernel_rfl, ?hy6⟩) ?r6
    case hy6 =>
      intro w hSw
      try dsimp only at hSw
      go_simp
      first | (obtain ⟨y0, y1, y2, y3⟩ := hSw; go_simp) | skip
      try with_reducible rfl
    try simp only [Act.put, List.getElem_toArray, List.getElem_cons_succ, List.getElem_cons_zero, List.setIfInBounds_toArray, List.set_cons_zero, List.set_cons_succ]
    refine AnyBut.takeS (i := 6) (v := undef) rfl (by kernel_rfl) (Nat.le_of_eq (by kernel_rfl)) (by kernel_rfl) (by kernel_rfl) (fun _ _ _ h => h) (HS0.out) (Or.inr ⟨by kernel_rfl, rfl⟩) ?r7
    try simp only [Act.put, List.getElem_toArray, List.getElem_cons_succ, List.getElem_cons_zero, List.setIfInBounds_toArray, List.set_cons_zero, List.set_cons_succ]
    refine AnyBut.takeS (i := 7) (v := undef) rfl (by kernel_rfl) (Nat.le_of_eq (by kernel_rfl)) (by kernel_rfl) (by kernel_rfl) (fun _ _ _ h => h) (HS0.out) (Or.inr ⟨by kernel_rfl, rfl⟩) ?r8
    try simp only [Act.put, List.getElem_toArray, List.getElem_cons_succ, List.getElem_cons_zero, List.setIfInBounds_toArray, List.set_cons_zero, List.set_cons_succ]
    refine AnyBut.takeS (i := 8) (v := undef) rfl (by kernel_rfl) (Nat.le_of_eq (by kernel_rfl)) (by kernel_rfl) (by kernel_rfl) (fun _ _ _ h => h) (HS0.out) (Or.inr ⟨by kernel_rfl, rfl⟩) ?r9
    try simp only [Act.put, List.getElem_toArray, List.getElem_cons_succ, List.getElem_cons_zero, List.setIfInBounds_toArray, List.set_cons_zero, List.set_cons_succ]
    refine AnyBut.takeS (i := 9) (v := undef) rfl (by kernel_rfl) (Nat.le_of_eq (by kernel_rfl)) (by kernel_rfl) (by kernel_rfl) (fun _ _ _ h => h) (HS0.out) (Or.inr ⟨by kernel_rfl, rfl⟩) ?r10
    try simp only [Act.put, List.getElem_toArray, List.getElem_cons_succ, List.getElem_cons_zero, List.setIfInBounds_toArray, List.set_cons_zero, List.set_cons_succ]
    refine AnyBut.takeS (i := 10) (v := undef) rfl (by kernel_rfl) (Nat.le_of_eq (by kernel_rfl)) (by kernel_rfl) (by kernel_rfl) (fun _ _ _ h => h) (HS0.out) (Or.inr ⟨by kernel_rfl, rfl⟩) ?r11
    try simp only [Act.put, List.getElem_toArray, List.getElem_cons_succ, List.getElem_cons_zero, List.setIfInBounds_toArray, List.set_cons_zero, List.set_cons_succ]
    refine AnyBut.takeS (i := 11) (v := undef) rfl (by kernel_rfl) (Nat.le_of_eq (by kernel_rfl)) (by kernel_rfl) (by kernel_rfl) (fun _ _ _ h => h) (HS0.out) (Or.inr ⟨by kernel_rfl, rfl⟩) ?r12
    try simp only [Act.put, List.getElem_toArray, List.getElem_cons_succ, List.getElem_cons_zero, List.setIfInBounds_toArray, List.set_cons_zero, List.set_cons_succ]
    refine AnyBut.takeS (i := 12) (v := undef) rfl (by kernel_rfl) (Nat.le_of_eq (by kernel_rfl)) (by kernel_rfl) (by kernel_rfl) (fun _ _ _ h => h) (HS0.out) (Or.inr ⟨by kernel_rfl, rfl⟩) ?r13
    try simp only [Act.put, List.getElem_toArray, List.getElem_cons_succ, List.getElem_cons_zero, List.setIfInBounds_toArray, List.set_cons_zero, List.set_cons_succ]
    refine AnyBut.takeS (i := 13) (v := undef) rfl (by kernel_rfl) (Nat.le_of_eq (by kernel_rfl)) (by kernel_rfl) (by kernel_rfl) (fun _ _ _ h => h) (HS0.out) (Or.inr ⟨by kernel_rfl, rfl⟩) ?r14
    try simp only [Act.put, List.getElem_toArray, List.getElem_cons_succ, List.getElem_cons_zero, List.setIfInBounds_toArray, List.set_cons_zero, List.set_cons_succ]
    refine AnyBut.takeS (i := 14) (v := ?v15) rfl (by kernel_rfl) (Nat.le_of_eq (by kernel_rfl)) (by kernel_rfl) (by kernel_rfl) (fun _ _ _ h => h) (HS0.out) (Or.inl ⟨by kernel_rfl, ?hy15⟩) ?r15
    case hy15 =>
      intro w hSw
      try dsimp only at hSw
      go_simp
      first | (obtain ⟨y0, y1, y2, y3⟩ := hSw; go_simp) | skip
      try with_reducible rfl
    try simp only [Act.put, List.getElem_toArray, List.getElem_cons_succ, List.getElem_cons_zero, List.setIfInBounds_toArray, List.set_cons_zero, List.set_cons_succ]
    refine AnyBut.done (by kernel_rfl) ?_
    go_wp2
    go_ret
    exact ⟨by rw [HRS.out, hnm]; simp, HK2.out.trans HK0.out⟩
  | true =>
    have nnm : (xname.toList != yname.toList) = false := by unfold bne; rw [hnm]; rfl
    go_enter Tryz.func11, Tryz.ntmps11
    go_upto_region 1 with fail
    rw [← HW2.out.1, ← HW2.out.2]
    refine AnyBut.start (S := fun w' => w'.cell? ⟨q, 0, none⟩ = some (.string xname) ∧ w'.cell? ⟨q, 1, none⟩ = some (.slice xaa xal xac) ∧ w'.cell? ⟨q + 1, 0, none⟩ = some (.string yname) ∧ w'.cell? ⟨q + 1, 1, none⟩ = some (.slice yaa yal yac)) (k := 15) (by kernel_rfl) ?_
    refine AnyBut.takeS (i := 0) (v := ?v16) rfl (by kernel_rfl) (Nat.le_of_eq (by kernel_rfl)) (by kernel_rfl) (by kernel_rfl) (fun _ _ _ h => h) (HS0.out) (Or.inl ⟨by kernel_rfl, ?hy16⟩) ?r16
    case hy16 =>
      intro w hSw
      try dsimp only at hSw
      go_simp
      first | (obtain ⟨y0, y1, y2, y3⟩ := hSw; go_simp) | skip
      try with_reducible rfl
    try simp only [Act.put, List.getElem_toArray, List.getElem_cons_zero, List.setIfInBounds_toArray, List.set_cons_zero, List.set_cons_succ]
    refine AnyBut.takeS (i := 1) (v := ?v17) rfl (by kernel_rfl) (Nat.le_of_eq (by kernel_rfl)) (by kernel_rfl) (by kernel_rfl) (fun _ _ _ h => h) (HS0.out) (Or.inl ⟨by kernel_rfl, ?hy17⟩) ?r17
    case hy17 =>
      intro w hSw
      try dsimp only at hSw
      go_simp
      first | (obtain ⟨y0, y1, y2, y3⟩ := hSw; go_simp) | skip
      try with_reducible rfl
    try simp only [Act.put, List.getElem_toArray, List.getElem_cons_succ, List.getElem_cons_zero, List.setIfInBounds_toArray, List.set_cons_zero, List.set_cons_succ]
    refine AnyBut.takeS (i := 2) (v := ?v18) rfl (by kernel_rfl) (Nat.le_of_eq (by kernel_rfl)) (by kernel_rfl) (by kernel_rfl) (fun _ _ _ h => h) (HS0.out) (Or.inl ⟨by kernel_rfl, ?hy18⟩) ?r18
    case hy18 =>
      intro w hSw
      try dsimp only at hSw
      go_simp
      first | (obtain ⟨y0, y1, y2, y3⟩ := hSw; go_simp) | skip
      try with_reducible rfl
    try simp only [Act.put, List.getElem_toArray, List.getElem_cons_succ, List.getElem_cons_zero, List.setIfInBounds_toArray, List.set_cons_zero, List.set_cons_succ]
    refine AnyBut.takeS (i := 3) (v := ?v19) rfl (by kernel_rfl) (Nat.le_of_eq (by kernel_rfl)) (by kernel_rfl) (by kernel_rfl) (fun _ _ _ h => h) (HS0.out) (Or.inl ⟨by kernel_rfl, ?hy19⟩) ?r19
    case hy19 =>
      intro w hSw
      try dsimp only at hSw
      go_simp
      first | (obtain ⟨y0, y1, y2, y3⟩ := hSw; go_simp) | skip
      try with_reducible rfl
    try simp only [Act.put, List.getElem_toArray, List.getElem_cons_succ, List.getElem_cons_zero, List.setIfInBounds_toArray, List.set_cons_zero, List.set_cons_succ]
    refine AnyBut.takeS (i := 4) (v := ?v20) rfl (by kernel_rfl) (Nat.le_of_eq (by kernel_rfl)) (by kernel_rfl) (by kernel_rfl) (fun _ _ _ h => h) (HS0.out) (Or.inl ⟨by kernel_rfl, ?hy20⟩) ?r20
    case hy20 =>
      intro w hSw
      try dsimp only at hSw
      go_simp
      first | (obtain ⟨y0, y1, y2, y3⟩ := hSw; go_simp) | skip
      try with_reducible rfl
    try simp only [Act.put, List.getElem_toArray, List.getElem_cons_succ, List.getElem_cons_zero, List.setIfInBounds_toArray, List.set_cons_zero, List.set_cons_succ]
    refine AnyBut.takeS (i := 5) (v := ?v21) rfl (by kernel_rfl) (Nat.le_of_eq (by kernel_rfl)) (by kernel_rfl) (by kernel_rfl) (fun _ _ _ h => h) (HS0.out) (Or.inl ⟨by kernel_rfl, ?hy21⟩) ?r21
    case hy21 =>
      intro w hSw
      try dsimp only at hSw
      go_simp
      first | (obtain ⟨y0, y1, y2, y3⟩ := hSw; go_simp) | skip
      try with_reducible rfl
    try simp only [Act.put, List.getElem_toArray, List.getElem_cons_succ, List.getElem_cons_zero, List.setIfInBounds_toArray, List.set_cons_zero, List.set_cons_succ]
    refine AnyBut.takeS (i := 6) (v := ?v22) rfl (by kernel_rfl) (Nat.le_of_eq (by kernel_rfl)) (by kernel_rfl) (by kernel_rfl) (fun _ _ _ h => h) (HS0.out) (Or.inl ⟨by kernel_rfl, ?hy22⟩) ?r22
    case hy22 =>
      intro w hSw
      try dsimp only at hSw
      go_simp
      first | (obtain ⟨y0, y1, y2, y3⟩ := hSw; go_simp) | skip
      try with_reducible rfl
    try simp only [Act.put, List.getElem_toArray, List.getElem_cons_succ, List.getElem_cons_zero, List.setIfInBounds_toArray, List.set_cons_zero, List.set_cons_succ]
    refine AnyBut.takeS (i := 7) (v := ?v23) rfl (by kernel_rfl) (Nat.le_of_eq (by kernel_rfl)) (by kernel_rfl) (by kernel_rfl) (fun _ _ _ h => h) (HS0.out) (Or.inl ⟨by kernel_rfl, ?hy23⟩) ?r23
    case hy23 =>
      intro w hSw
      try dsimp only at hSw
      go_simp
      first | (obtain ⟨y0, y1, y2, y3⟩ := hSw; go_simp) | skip
      try with_reducible rfl
    try simp only [Act.put, List.getElem_toArray, List.getElem_cons_succ, List.getElem_cons_zero, List.setIfInBounds_toArray, List.set_cons_zero, List.set_cons_succ]
    refine AnyBut.takeS (i := 9) (v := ?v24) rfl (by kernel_rfl) (Nat.le_of_eq (by kernel_rfl)) (by kernel_rfl) (by kernel_rfl) (fun _ _ _ h => h) (HS0.out) (Or.inl ⟨by kernel_rfl, ?hy24⟩) ?r24
    case hy24 =>
      intro w hSw
      try dsimp only at hSw
      go_simp
      first | (obtain ⟨y0, y1, y2, y3⟩ := hSw; go_simp) | skip
      try with_reducible rfl
    try simp only [Act.put, List.getElem_toArray, List.getElem_cons_succ, List.getElem_cons_zero, List.setIfInBounds_toArray, List.set_cons_zero, List.set_cons_succ]
    refine AnyBut.takeS (i := 10) (v := ?v25) rfl (by kernel_rfl) (Nat.le_of_eq (by kernel_rfl)) (by kernel_rfl) (by kernel_rfl) (fun _ _ _ h => h) (HS0.out) (Or.inl ⟨by kernel_rfl, ?hy25⟩) ?r25
    case hy25 =>
      intro w hSw
      try dsimp only at hSw
      go_simp
      first | (obtain ⟨y0, y1, y2, y3⟩ := hSw; go_simp) | skip
      try with_reducible rfl
    try simp only [Act.put, List.getElem_toArray, List.getElem_cons_succ, List.getElem_cons_zero, List.setIfInBounds_toArray, List.set_cons_zero, List.set_cons_succ]
    refine AnyBut.one (i := 8) (by kernel_rfl) rfl (fun K hK => ?_)
    go_simp
    go_wp2_with fail
    refine (HSX.out _ HK0.out).mono ?_
    rintro e w6 ⟨v8, rfl, m8⟩
    obtain ⟨a8, c8, rfl⟩ := m8.slice
    have HK8 := Lib.hid (HK0.out.trans m8.kept)
    have HM8 := Lib.hid m8
    have HS8 := Lib.hid (HSS.out w6 HK8.out)
    clear m8
    go_wp2
    refine hK.out _ _ (HS8.out) ?_
    clear hK K
    try simp only [Act.put, List.getElem_toArray, List.getElem_cons_succ, List.getElem_cons_zero, List.setIfInBounds_toArray, List.set_cons_zero, List.set_cons_succ]
    refine AnyBut.one (i := 11) (by kernel_rfl) rfl (fun K hK => ?_)
    go_simp
    go_wp2_with fail
    refine (HSY.out _ HK8.out).mono ?_
    rintro e w7 ⟨v11, rfl, m11⟩
    obtain ⟨a11, c11, rfl⟩ := m11.slice
    have HK11 := Lib.hid (HK8.out.trans m11.kept)
    have HM11 := Lib.hid m11
    have HS11 := Lib.hid (HSS.out w7 HK11.out)
    clear m11
    go_wp2
    refine hK.out _ _ (HS11.out) ?_
    clear hK K
    try simp only [Act.put, List.getElem_toArray, List.getElem_cons_succ, List.getElem_cons_zero, List.setIfInBounds_toArray, List.set_cons_zero, List.set_cons_succ]
    refine AnyBut.one (i := 12) (by kernel_rfl) rfl (fun K hK => ?_)
    go_simp
    go_wp2_with fail
    refine (HEQ.out a8 a11 c8 c11 _ (HM8.out.at_.kept HM11.out.kept) HM11.out.at_).mono ?_
    rintro e w8 ⟨rfl, k12⟩
    have HK12 := Lib.hid (HK11.out.trans k12)
    have HS12 := Lib.hid (HSS.out w8 HK12.out)
    clear k12
    go_wp2
    refine hK.out _ _ (HS12.out) ?_
    clear hK K
    try simp only [Act.put, List.getElem_toArray, List.getElem_cons_succ, List.getElem_cons_zero, List.setIfInBounds_toArray, List.set_cons_zero, List.set_cons_succ]
    refine AnyBut.takeS (i := 13) (v := ?v26) rfl (by kernel_rfl) (Nat.le_of_eq (by kernel_rfl)) (by kernel_rfl) (by kernel_rfl) (fun _ _ _ h => h) (HS12.out) (Or.inl ⟨by kernel_rfl, ?hy26⟩) ?r26
    case hy26 =>
      intro w hSw
      try dsimp only at hSw
      go_simp
      first | (obtain ⟨y0, y1, y2, y3⟩ := hSw; go_simp) | skip
      try with_reducible rfl
    try simp only [Act.put, List.getElem_toArray, List.getElem_cons_succ, List.getElem_cons_zero, List.setIfInBounds_toArray, List.set_cons_zero, List.set_cons_succ]
    refine AnyBut.takeS (i := 14) (v := ?v27) rfl (by kernel_rfl) (Nat.le_of_eq (by kernel_rfl)) (by kernel_rfl) (by kernel_rfl) (fun _ _ _ h => h) (HS12.out) (Or.inl ⟨by kernel_rfl, ?hy27⟩) ?r27
    case hy27 =>
      intro w hSw
      try dsimp only at hSw
      go_simp
      first | (obtain ⟨y0, y1, y2, y3⟩ := hSw; go_simp) | skip
      try with_reducible rfl
    try simp only [Act.put, List.getElem_toArray, List.getElem_cons_succ, List.getElem_cons_zero, List.setIfInBounds_toArray, List.set_cons_zero, List.set_cons_succ]
    refine AnyBut.done (by kernel_rfl) ?_
    cases SB with
    | false =>
      go_wp2
      go_ret
      exact ⟨by rw [HRS.out]; simp, HK2.out.trans HK12.out⟩
    | true =>
      obtain ⟨bx, by'⟩ := HBX.out w8 HK12.out
      have c2 := cell_rowZ 2 _ bx rfl
      have d2 := cell_rowZ 2 _ by' rfl
      have c3 := cell_rowZ 3 _ bx rfl
      have d3 := cell_rowZ 3 _ by' rfl
      have c4 := cell_rowZ 4 _ bx rfl
      have d4 := cell_rowZ 4 _ by' rfl
      have c5 := cell_rowZ 5 _ bx rfl
      have d5 := cell_rowZ 5 _ by' rfl
      have c6 := cell_rowZ 6 _ bx rfl
      have d6 := cell_rowZ 6 _ by' rfl
      have c7 := cell_rowZ 7 _ bx rfl
      have d7 := cell_rowZ 7 _ by' rfl
      have c8 := cell_rowZ 8 _ bx rfl
      have d8 := cell_rowZ 8 _ by' rfl
      have c9 := cell_rowZ 9 _ bx rfl
      have d9 := cell_rowZ 9 _ by' rfl
      have c10 := cell_rowZ 10 _ bx rfl
      have d10 := cell_rowZ 10 _ by' rfl
      have c11 := cell_rowZ 11 _ bx rfl
      have d11 := cell_rowZ 11 _ by' rfl
      have c12 := cell_rowZ 12 _ bx rfl
      have d12 := cell_rowZ 12 _ by' rfl
      have c13 := cell_rowZ 13 _ bx rfl
      have d13 := cell_rowZ 13 _ by' rfl
      have c14 := cell_rowZ 14 _ bx rfl
      have d14 := cell_rowZ 14 _ by' rfl
      have c15 := cell_rowZ 15 _ bx rfl
      have d15 := cell_rowZ 15 _ by' rfl
      have c16 := cell_rowZ 16 _ bx rfl
      have d16 := cell_rowZ 16 _ by' rfl
      clear bx by'
      cases hbk : (xkind == ykind) with
      | false =>
        have nbk : (xkind != ykind) = true := by unfold bne; rw [hbk]; rfl
        go_wp2
        go_ret
        exact ⟨by rw [HRS.out, hbk]; simp, HK2.out.trans HK12.out⟩
      | true =>
        have nbk : (xkind != ykind) = false := by unfold bne; rw [hbk]; rfl
        cases hbt : (xtemp == ytemp) with
        | false =>
          have nbt : (xtemp != ytemp) = true := by unfold bne; rw [hbt]; rfl
          go_wp2
          go_ret
          exact ⟨by rw [HRS.out, hbt]; simp, HK2.out.trans HK12.out⟩
        | true =>
          have nbt : (xtemp != ytemp) = false := by unfold bne; rw [hbt]; rfl
          cases hbm : (xmono == ymono) with
          | false =>
            have nbm : (xmono != ymono) = true := by unfold bne; rw [hbm]; rfl
            go_wp2
            go_ret
            exact ⟨by rw [HRS.out, hbm]; simp, HK2.out.trans HK12.out⟩
          | true =>
            have nbm : (xmono != ymono) = false := by unfold bne; rw [hbm]; rfl
            cases hbs : (xstart == ystart) with
            | false =>
              have nbs : (xstart != ystart) = true := by unfold bne; rw [hbs]; rfl
              go_wp2
              go_ret
              exact ⟨by rw [HRS.out, hbs]; simp, HK2.out.trans HK12.out⟩
            | true =>
              have nbs : (xstart != ystart) = false := by unfold bne; rw [hbs]; rfl
              cases hbe : (xtime == ytime) with
              | false =>
                have nbe : (xtime != ytime) = true := by unfold bne; rw [hbe]; rfl
                go_wp2
                go_ret
                exact ⟨by rw [HRS.out, hbe]; simp, HK2.out.trans HK12.out⟩
              | true =>
                have nbe : (xtime != ytime) = false := by unfold bne; rw [hbe]; rfl
                cases hbw : (xwhole == ywhole) with
                | false =>
                  go_wp2
                  go_ret
                  exact ⟨by rw [HRS.out, hbw]; simp, HK2.out.trans HK12.out⟩
                | true =>
                  cases hbr : (xre == yre) with
                  | false =>
                    go_wp2
                    go_ret
                    exact ⟨by rw [HRS.out, hbr]; simp, HK2.out.trans HK12.out⟩
                  | true =>
                    cases hbi : (xim == yim) with
                    | false =>
                      go_wp2
                      go_ret
                      exact ⟨by rw [HRS.out, hbi]; simp, HK2.out.trans HK12.out⟩
                    | true =>
                      cases hbf : (xflags == yflags) with
                      | false =>
                        go_wp2
                        go_ret
                        exact ⟨by rw [HRS.out, hbf]; simp, HK2.out.trans HK12.out⟩
                      | true =>
                        go_wp2_with fail
                        refine (HHS.out w8 HK12.out).mono ?_
                        rintro e w9 ⟨rfl, k9⟩
                        have HK9 := Lib.hid (HK12.out.trans k9)
                        clear k9
                        go_wp2
                        go_ret
                        exact ⟨by rw [HRS.out, hnm, hbk, hbt, hbm, hbs, hbe, hbw, hbr, hbi, hbf]; rfl, HK2.out.trans HK9.out⟩
end Go.Proofs.YteflepcmblacaaaGreatDoor
