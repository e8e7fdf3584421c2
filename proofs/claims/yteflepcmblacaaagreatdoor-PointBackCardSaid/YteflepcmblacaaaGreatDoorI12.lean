/- Layer 12: plainOf; which points are the same (written by tools/gen_XI12.py). -/
import Derived.Test.YteflepcmblacaaaGreatDoorI6
namespace Go.Proofs.YteflepcmblacaaaGreatDoor
open Go.RowKit
attribute [local go_sem ↓] Go.wp_at_zero Go.wp_at_succ

theorem plain_info : (Tryz.prog.info? 79).map (·.size) = some 10 := by kernel_rfl
def plainC (x : Pnt) : Array Value := #[.string x.name, .int .i64 x.kind, .int .i64 x.temp, .bool x.mono, .int .i64 x.start, .int .i64 x.time, .int .i64 x.whole, .int .u64 x.re, .int .u64 x.im, .int .i64 x.flags]
set_option maxRecDepth 100000 in
set_option maxHeartbeats 2000000 in
theorem plainOf_any (x : Pnt) (av pv nv : Value) (w : World) : Calls Tryz.prog 43 #[pntV x av pv nv] w fun e w' => e = .returned (.agg (plainC x)) ∧ Kept (fun _ => False) w w' := by
  unfold pntV pntC plainC
  obtain ⟨name, L, kind, temp, mono, start, time, whole, re, im, ⟨sc, ze, po, pl, no, nl⟩, flags⟩ := x
  dsimp only
  go_enter Tryz.func43, Tryz.ntmps43
  go_wp2
  exact bodyPost_ret (results_cell_row Tryz.results43 _ _ (w.heap.size + 1) 79 _ (0, 0) _ rfl (box_second2 w _ _) Tryz.underlying79 rfl plain_info) rfl ⟨rfl, ((Kept.refl _ _).alloc _).alloc _⟩
set_option maxRecDepth 100000 in
set_option maxHeartbeats 4000000 in
theorem eq_plain (n n' : ByteArray) (k t s e h r i f k' t' s' e' h' r' i' f' : Int) (b b' : Bool) (w : World) : (binOp .eql 79 (.agg #[.string n, .int .i64 k, .int .i64 t, .bool b, .int .i64 s, .int .i64 e, .int .i64 h, .int .u64 r, .int .u64 i, .int .i64 f]) (.agg #[.string n', .int .i64 k', .int .i64 t', .bool b', .int .i64 s', .int .i64 e', .int .i64 h', .int .u64 r', .int .u64 i', .int .i64 f'])).run Tryz.prog w =
    .ok (.bool ((n.toList == n'.toList) && ((k == k') && ((t == t') && ((b == b') && ((s == s') && ((e == e') && ((h == h') && ((r == r') && ((i == i') && (f == f'))))))))))) w := by
  cases h0 : (n.toList == n'.toList) with
  | false => go_simp
  | true =>
    cases h1 : (k == k') with
    | false => go_simp
    | true =>
      cases h2 : (t == t') with
      | false => go_simp
      | true =>
        cases h3 : (b == b') with
        | false => go_simp
        | true =>
          cases h4 : (s == s') with
          | false => go_simp
          | true =>
            cases h5 : (e == e') with
            | false => go_simp
            | true =>
              cases h6 : (h == h') with
              | false => go_simp
              | true =>
                cases h7 : (r == r') with
                | false => go_simp
                | true =>
                  cases h8 : (i == i') with
                  | false => go_simp
                  | true =>
                    cases h9 : (f == f') with
                    | false => go_simp
                    | true =>
                      go_simp
/-- Are two points alike but for their attributes and histograms? -/
def plainB (x y : Pnt) : Bool := (x.name.toList == y.name.toList) && ((x.kind == y.kind) && ((x.temp == y.temp) && ((x.mono == y.mono) && ((x.start == y.start) && ((x.time == y.time) && ((x.whole == y.whole) && ((x.re == y.re) && ((x.im == y.im) && (x.flags == y.flags)))))))))
theorem plain_eql (x y : Pnt) (w : World) : (binOp .eql 79 (.agg (plainC x)) (.agg (plainC y))).run Tryz.prog w = .ok (.bool (plainB x y)) w := eq_plain _ _ _ _ _ _ _ _ _ _ _ _ _ _ _ _ _ _ _ _ w
/-- Are two points the same? -/
def sameP (x y : Pnt) : Bool := plainB x y && (sameL (sortP x.L) (sortP y.L) && decide (sameH x.h y.h))
set_option maxRecDepth 100000 in
set_option maxHeartbeats 8000000 in
theorem pSame_any (x y : Pnt) (xaa xpa xna yaa ypa yna : Option Addr) (xac xpc xnc yac ypc ync : Nat) (w : World) (hx : PntAt w x xaa xac (.slice xpa x.h.pl.length xpc) (.slice xna x.h.nl.length xnc)) (hy : PntAt w y yaa yac (.slice ypa y.h.pl.length ypc) (.slice yna y.h.nl.length ync)) (hlx : x.light) (hly : y.light) :
    Calls Tryz.prog 12 #[pntV x (.slice xaa x.L.length xac) (.slice xpa x.h.pl.length xpc) (.slice xna x.h.nl.length xnc), pntV y (.slice yaa y.L.length yac) (.slice ypa y.h.pl.length ypc) (.slice yna y.h.nl.length ync)] w fun e w' => e = .returned (.bool (sameP x y)) ∧ Kept (fun _ => False) w w' := by
  have HPX := Lib.hid (fun w' => plainOf_any x (.slice xaa x.L.length xac) (.slice xpa x.h.pl.length xpc) (.slice xna x.h.nl.length xnc) w')
  have HPY := Lib.hid (fun w' => plainOf_any y (.slice yaa y.L.length yac) (.slice ypa y.h.pl.length ypc) (.slice yna y.h.nl.length ync) w')
  obtain ⟨w2, hw2⟩ : ∃ w2, w2 = (w.alloc (.cells (pntC x (.slice xaa x.L.length xac) (.slice xpa x.h.pl.length xpc) (.slice xna x.h.nl.length xnc)) 30)).alloc (.cells (pntC y (.slice yaa y.L.length yac) (.slice ypa y.h.pl.length ypc) (.slice yna y.h.nl.length ync)) 30) := ⟨_, rfl⟩
  have k2 : Kept (fun _ => False) w w2 := by rw [hw2]; exact ((Kept.refl _ _).alloc _).alloc _
  have HSX := Lib.hid (fun w' (k : Kept (fun _ => False) w2 w') => sorted_any xaa xac x.L w' (hx.ps.kept (k2.trans k)) hlx.len)
  have HSY := Lib.hid (fun w' (k : Kept (fun _ => False) w2 w') => sorted_any yaa yac y.L w' (hy.ps.kept (k2.trans k)) hly.len)
  have HHS := Lib.hid (fun w' (k : Kept (fun _ => False) w2 w') => hSame_any x.h y.h _ _ _ _ w' (hx.hist.on (k2.trans k)) (hy.hist.on (k2.trans k)) (by have := hlx.pl; omega) (by have := hlx.nl; omega))
  have HLL : Hid ((sortP x.L).length ≤ 1000000) := Lib.hid (by rw [(sortP_perm x.L).length_eq]; have := hlx.len; omega)
  have hql := fun w' => plain_eql x y w'
  have hres : sameP x y = (plainB x y && (sameL (sortP x.L) (sortP y.L) && decide (sameH x.h y.h))) := rfl
  rw [hres]
  obtain ⟨PX, hPX⟩ : ∃ a, a = plainC x := ⟨_, rfl⟩
  obtain ⟨PY, hPY⟩ : ∃ a, a = plainC y := ⟨_, rfl⟩
  obtain ⟨PB, hPB⟩ : ∃ b, b = plainB x y := ⟨_, rfl⟩
  obtain ⟨SB, hSB⟩ : ∃ b, b = sameL (sortP x.L) (sortP y.L) := ⟨_, rfl⟩
  obtain ⟨HB, hHB⟩ : ∃ b : Bool, b = decide (sameH x.h y.h) := ⟨_, rfl⟩
  rw [← hPX] at HPX hql
  rw [← hPY] at HPY hql
  rw [← hPB] at hql
  rw [← hHB] at HHS
  rw [← hPB, ← hSB, ← hHB]
  have HSB := Lib.hid hSB
  have hb1 : w2.heap[w.heap.size]? = some (.cells (pntC x (.slice xaa x.L.length xac) (.slice xpa x.h.pl.length xpc) (.slice xna x.h.nl.length xnc)) 30 (0, 0)) := by rw [hw2]; exact ((Kept.refl (fun _ => False) _).alloc _).same (heap_alloc_new w _) (fun x => x)
  have hb2 : w2.heap[w.heap.size + 1]? = some (.cells (pntC y (.slice yaa y.L.length yac) (.slice ypa y.h.pl.length ypc) (.slice yna y.h.nl.length ync)) 30 (0, 0)) := by rw [hw2]; exact box_second2 w _ _
  have HQL := Lib.hid hql
  clear hPX hPY hPB hSB hHB hres hx hy hlx hly hql
  unfold pntV pntC at HPX HPY ⊢
  unfold pntC at hb1 hb2 hw2
  unfold histV at HHS
  obtain ⟨xname, xL, xkind, xtemp, xmono, xstart, xtime, xwhole, xre, xim, ⟨xsc, xze, xpo, xpl, xno, xnl⟩, xflags⟩ := x
  obtain ⟨yname, yL, ykind, ytemp, ymono, ystart, ytime, ywhole, yre, yim, ⟨ysc, yze, ypo, ypl, yno, ynl⟩, yflags⟩ := y
  dsimp only at HPX HPY HSX HSY HHS HLL HSB hb1 hb2 hw2 ⊢
  obtain ⟨xal, h1⟩ : ∃ m, m = xL.length := ⟨_, rfl⟩
  obtain ⟨xm, h2⟩ : ∃ m, m = xpl.length := ⟨_, rfl⟩
  obtain ⟨xn, h3⟩ : ∃ m, m = xnl.length := ⟨_, rfl⟩
  obtain ⟨yal, h4⟩ : ∃ m, m = yL.length := ⟨_, rfl⟩
  obtain ⟨ym, h5⟩ : ∃ m, m = ypl.length := ⟨_, rfl⟩
  obtain ⟨yn, h6⟩ : ∃ m, m = ynl.length := ⟨_, rfl⟩
  rw [← h1, ← h2, ← h3] at HPX
  rw [← h4, ← h5, ← h6] at HPY
  rw [← h1] at HSX
  rw [← h4] at HSY
  rw [← h2, ← h3, ← h5, ← h6] at HHS
  rw [← h1, ← h2, ← h3] at hb1
  rw [← h4, ← h5, ← h6] at hb2
  rw [← h1, ← h2, ← h3, ← h4, ← h5, ← h6] at hw2 ⊢
  obtain ⟨q, hq⟩ : ∃ q, q = w.heap.size := ⟨_, rfl⟩
  rw [← hq] at hb1 hb2
  have HSS : Hid (∀ w', Kept (fun _ => False) w2 w' → (fun w' => w'.heap[q]? = some (.cells #[.string xname, .slice xaa xal xac, .int .i64 xkind, .int .i64 xtemp, .bool xmono, .int .i64 xstart, .int .i64 xtime, .int .i64 xwhole, .int .u64 xre, .int .u64 xim, .int .i64 xsc, .int .u64 (xze : Int), .int .i64 xpo, .slice xpa xm xpc, .int .i64 xno, .slice xna xn xnc, .int .i64 xflags] 30 (0, 0)) ∧ w'.heap[q + 1]? = some (.cells #[.string yname, .slice yaa yal yac, .int .i64 ykind, .int .i64 ytemp, .bool ymono, .int .i64 ystart, .int .i64 ytime, .int .i64 ywhole, .int .u64 yre, .int .u64 yim, .int .i64 ysc, .int .u64 (yze : Int), .int .i64 ypo, .slice ypa ym ypc, .int .i64 yno, .slice yna yn ync, .int .i64 yflags] 30 (0, 0)) ∧ w'.cell? ⟨q, 1, none⟩ = some (.slice xaa xal xac) ∧ w'.cell? ⟨q, 10, none⟩ = some (.int .i64 xsc) ∧ w'.cell? ⟨q, 11, none⟩ = some (.int .u64 (xze : Int)) ∧ w'.cell? ⟨q, 12, none⟩ = some (.int .i64 xpo) ∧ w'.cell? ⟨q, 13, none⟩ = some (.slice xpa xm xpc) ∧ w'.cell? ⟨q, 14, none⟩ = some (.int .i64 xno) ∧ w'.cell? ⟨q, 15, none⟩ = some (.slice xna xn xnc) ∧ w'.cell? ⟨q + 1, 1, none⟩ = some (.slice yaa yal yac) ∧ w'.cell? ⟨q + 1, 10, none⟩ = some (.int .i64 ysc) ∧ w'.cell? ⟨q + 1, 11, none⟩ = some (.int .u64 (yze : Int)) ∧ w'.cell? ⟨q + 1, 12, none⟩ = some (.int .i64 ypo) ∧ w'.cell? ⟨q + 1, 13, none⟩ = some (.slice ypa ym ypc) ∧ w'.cell? ⟨q + 1, 14, none⟩ = some (.int .i64 yno) ∧ w'.cell? ⟨q + 1, 15, none⟩ = some (.slice yna yn ync)) w') := Lib.hid (fun w' k => by
    have a := k.same hb1 (fun x => x)
    have b := k.same hb2 (fun x => x)
    exact ⟨a, b, cell_rowZ 1 _ a rfl, cell_rowZ 10 _ a rfl, cell_rowZ 11 _ a rfl, cell_rowZ 12 _ a rfl, cell_rowZ 13 _ a rfl, cell_rowZ 14 _ a rfl, cell_rowZ 15 _ a rfl, cell_rowZ 1 _ b rfl, cell_rowZ 10 _ b rfl, cell_rowZ 11 _ b rfl, cell_rowZ 12 _ b rfl, cell_rowZ 13 _ b rfl, cell_rowZ 14 _ b rfl, cell_rowZ 15 _ b rfl⟩)
  have HEQ := Lib.hid (fun (ao bo : Option Addr) (c d : Nat) (w : World) (ha : PsAt w ao (sortP xL)) (hb : PsAt w bo (sortP yL)) => sEqualP_any ao bo c d (sortP xL) (sortP yL) w ha hb HLL.out)
  rw [← HSB.out] at HEQ
  have HW2 := Lib.hid (And.intro hw2 hq)
  have HK2 := Lib.hid k2
  have HK0 : Hid (Kept (fun _ => False) w2 w2.drew) := Lib.hid ((Kept.refl _ _).drew)
  have HS0 := Lib.hid (HSS.out w2.drew HK0.out)
  clear h1 h2 h3 h4 h5 h6 hb1 hb2 hw2 hq k2
  cases PB with
  | false =>
    have hql := HQL.out
    go_enter Tryz.func12, Tryz.ntmps12
    go_upto_region 1 with fail
    rw [← HW2.out.1, ← HW2.out.2]
    refine AnyBut.start (S := fun w' => w'.heap[q]? = some (.cells #[.string xname, .slice xaa xal xac, .int .i64 xkind, .int .i64 xtemp, .bool xmono, .int .i64 xstart, .int .i64 xtime, .int .i64 xwhole, .int .u64 xre, .int .u64 xim, .int .i64 xsc, .int .u64 (xze : Int), .int .i64 xpo, .slice xpa xm xpc, .int .i64 xno, .slice xna xn xnc, .int .i64 xflags] 30 (0, 0)) ∧ w'.heap[q + 1]? = some (.cells #[.string yname, .slice yaa yal yac, .int .i64 ykind, .int .i64 ytemp, .bool ymono, .int .i64 ystart, .int .i64 ytime, .int .i64 ywhole, .int .u64 yre, .int .u64 yim, .int .i64 ysc, .int .u64 (yze : Int), .int .i64 ypo, .slice ypa ym ypc, .int .i64 yno, .slice yna yn ync, .int .i64 yflags] 30 (0, 0)) ∧ w'.cell? ⟨q, 1, none⟩ = some (.slice xaa xal xac) ∧ w'.cell? ⟨q, 10, none⟩ = some (.int .i64 xsc) ∧ w'.cell? ⟨q, 11, none⟩ = some (.int .u64 (xze : Int)) ∧ w'.cell? ⟨q, 12, none⟩ = some (.int .i64 xpo) ∧ w'.cell? ⟨q, 13, none⟩ = some (.slice xpa xm xpc) ∧ w'.cell? ⟨q, 14, none⟩ = some (.int .i64 xno) ∧ w'.cell? ⟨q, 15, none⟩ = some (.slice xna xn xnc) ∧ w'.cell? ⟨q + 1, 1, none⟩ = some (.slice yaa yal yac) ∧ w'.cell? ⟨q + 1, 10, none⟩ = some (.int .i64 ysc) ∧ w'.cell? ⟨q + 1, 11, none⟩ = some (.int .u64 (yze : Int)) ∧ w'.cell? ⟨q + 1, 12, none⟩ = some (.int .i64 ypo) ∧ w'.cell? ⟨q + 1, 13, none⟩ = some (.slice ypa ym ypc) ∧ w'.cell? ⟨q + 1, 14, none⟩ = some (.int .i64 yno) ∧ w'.cell? ⟨q + 1, 15, none⟩ = some (.slice yna yn ync)) (k := 22) (by kernel_rfl) ?_
    refine AnyBut.takeS (i := 0) (v := ?v1) rfl (by kernel_rfl) (Nat.le_of_eq (by kernel_rfl)) (by kernel_rfl) (by kernel_rfl) (fun _ _ _ h => h) (HS0.out) (Or.inl ⟨by kernel_rfl, ?hy1⟩) ?r1
    case hy1 =>
      intro w hSw
      try dsimp only at hSw
      refine exec_load_row 30 (.tmp 2) ?_ q ?_ 30 _ (0, 0) _ hSw.1 Tryz.underlying30 rfl point_info
      · rfl
      · rfl
    try simp only [Act.put, List.getElem_toArray, List.getElem_cons_zero, List.setIfInBounds_toArray, List.set_cons_zero, List.set_cons_succ]
    refine AnyBut.takeS (i := 2) (v := ?v2) rfl (by kernel_rfl) (Nat.le_of_eq (by kernel_rfl)) (by kernel_rfl) (by kernel_rfl) (fun _ _ _ h => h) (HS0.out) (Or.inl ⟨by kernel_rfl, ?hy2⟩) ?r2
    case hy2 =>
      intro w hSw
      try dsimp only at hSw
      refine exec_load_row 30 (.tmp 3) ?_ (q + 1) ?_ 30 _ (0, 0) _ hSw.2.1 Tryz.underlying30 rfl point_info
      · rfl
      · rfl
    try simp only [Act.put, List.getElem_toArray, List.getElem_cons_succ, List.getElem_cons_zero, List.setIfInBounds_toArray, List.set_cons_zero, List.set_cons_succ]
    refine AnyBut.one (i := 1) (by kernel_rfl) rfl (fun K hK => ?_)
    go_simp
    go_wp2_with fail
    refine (HPX.out _).mono ?_
    rintro e w4 ⟨rfl, k1⟩
    have HK1 := Lib.hid (HK0.out.trans k1)
    have HS1 := Lib.hid (HSS.out w4 HK1.out)
    clear k1
    go_wp2
    refine hK.out _ _ (HS1.out) ?_
    clear hK K
    try simp only [Act.put, List.getElem_toArray, List.getElem_cons_succ, List.getElem_cons_zero, List.setIfInBounds_toArray, List.set_cons_zero, List.set_cons_succ]
    refine AnyBut.one (i := 3) (by kernel_rfl) rfl (fun K hK => ?_)
    go_simp
    go_wp2_with fail
    refine (HPY.out _).mono ?_
    rintro e w5 ⟨rfl, k3⟩
    have HK3 := Lib.hid (HK1.out.trans k3)
    have HS3 := Lib.hid (HSS.out w5 HK3.out)
    clear k3
    go_wp2
    refine hK.out _ _ (HS3.out) ?_
    clear hK K
    try simp only [Act.put, List.getElem_toArray, List.getElem_cons_succ, List.getElem_cons_zero, List.setIfInBounds_toArray, List.set_cons_zero, List.set_cons_succ]
    refine AnyBut.takeS (i := 4) (v := ?v3) rfl (by kernel_rfl) (Nat.le_of_eq (by kernel_rfl)) (by kernel_rfl) (by kernel_rfl) (fun _ _ _ h => h) (HS3.out) (Or.inl ⟨by kernel_rfl, ?hy3⟩) ?r3
    case hy3 =>
      intro w hSw
      try dsimp only at hSw
      go_simp
      first | (obtain ⟨yb, yc, y0, y1, y2, y3, y4, y5, y6, y7, y8, y9, y10, y11, y12, y13⟩ := hSw; clear yb yc; go_simp) | skip
      try with_reducible rfl
    try simp only [Act.put, List.getElem_toArray, List.getElem_cons_succ, List.getElem_cons_zero, List.setIfInBounds_toArray, List.set_cons_zero, List.set_cons_succ]
    refine AnyBut.takeS (i := 5) (v := ?v4) rfl (by kernel_rfl) (Nat.le_of_eq (by kernel_rfl)) (by kernel_rfl) (by kernel_rfl) (fun _ _ _ h => h) (HS3.out) (Or.inl ⟨by kernel_rfl, ?hy4⟩) ?r4
    case hy4 =>
      intro w hSw
      try dsimp only at hSw
      go_simp
      first | (obtain ⟨yb, yc, y0, y1, y2, y3, y4, y5, y6, y7, y8, y9, y10, y11, y12, y13⟩ := hSw; clear yb yc; go_simp) | skip
      try with_reducible rfl
    try simp only [Act.put, List.getElem_toArray, List.getElem_cons_succ, List.getElem_cons_zero, List.setIfInBounds_toArray, List.set_cons_zero, List.set_cons_succ]
    refine AnyBut.takeS (i := 6) (v := undef) rfl (by kernel_rfl) (Nat.le_of_eq (by kernel_rfl)) (by kernel_rfl) (by kernel_rfl) (fun _ _ _ h => h) (HS3.out) (Or.inr ⟨by kernel_rfl, rfl⟩) ?r5
    try simp only [Act.put, List.getElem_toArray, List.getElem_cons_succ, List.getElem_cons_zero, List.setIfInBounds_toArray, List.set_cons_zero, List.set_cons_succ]
    refine AnyBut.takeS (i := 7) (v := undef) rfl (by kernel_rfl) (Nat.le_of_eq (by kernel_rfl)) (by kernel_rfl) (by kernel_rfl) (fun _ _ _ h => h) (HS3.out) (Or.inr ⟨by kernel_rfl, rfl⟩) ?r6
    try simp only [Act.put, List.getElem_toArray, List.getElem_cons_succ, List.getElem_cons_zero, List.setIfInBounds_toArray, List.set_cons_zero, List.set_cons_succ]
    refine AnyBut.takeS (i := 8) (v := undef) rfl (by kernel_rfl) (Nat.le_of_eq (by kernel_rfl)) (by kernel_rfl) (by kernel_rfl) (fun _ _ _ h => h) (HS3.out) (Or.inr ⟨by kernel_rfl, rfl⟩) ?r7
    try simp only [Act.put, List.getElem_toArray, List.getElem_cons_succ, List.getElem_cons_zero, List.setIfInBounds_toArray, List.set_cons_zero, List.set_cons_succ]
    refine AnyBut.takeS (i := 9) (v := undef) rfl (by kernel_rfl) (Nat.le_of_eq (by kernel_rfl)) (by kernel_rfl) (by kernel_rfl) (fun _ _ _ h => h) (HS3.out) (Or.inr ⟨by kernel_rfl, rfl⟩) ?r8
    try simp only [Act.put, List.getElem_toArray, List.getElem_cons_succ, List.getElem_cons_zero, List.setIfInBounds_toArray, List.set_cons_zero, List.set_cons_succ]
    refine AnyBut.takeS (i := 10) (v := undef) rfl (by kernel_rfl) (Nat.le_of_eq (by kernel_rfl)) (by kernel_rfl) (by kernel_rfl) (fun _ _ _ h => h) (HS3.out) (Or.inr ⟨by kernel_rfl, rfl⟩) ?r9
    try simp only [Act.put, List.getElem_toArray, List.getElem_cons_succ, List.getElem_cons_zero, List.setIfInBounds_toArray, List.set_cons_zero, List.set_cons_succ]
    refine AnyBut.takeS (i := 11) (v := undef) rfl (by kernel_rfl) (Nat.le_of_eq (by kernel_rfl)) (by kernel_rfl) (by kernel_rfl) (fun _ _ _ h => h) (HS3.out) (Or.inr ⟨by kernel_rfl, rfl⟩) ?r10
    try simp only [Act.put, List.getElem_toArray, List.getElem_cons_succ, List.getElem_cons_zero, List.setIfInBounds_toArray, List.set_cons_zero, List.set_cons_succ]
    refine AnyBut.takeS (i := 12) (v := undef) rfl (by kernel_rfl) (Nat.le_of_eq (by kernel_rfl)) (by kernel_rfl) (by kernel_rfl) (fun _ _ _ h => h) (HS3.out) (Or.inr ⟨by kernel_rfl, rfl⟩) ?r11
    try simp only [Act.put, List.getElem_toArray, List.getElem_cons_succ, List.getElem_cons_zero, List.setIfInBounds_toArray, List.set_cons_zero, List.set_cons_succ]
    refine AnyBut.takeS (i := 13) (v := ?v12) rfl (by kernel_rfl) (Nat.le_of_eq (by kernel_rfl)) (by kernel_rfl) (by kernel_rfl) (fun _ _ _ h => h) (HS3.out) (Or.inl ⟨by kernel_rfl, ?hy12⟩) ?r12
    case hy12 =>
      intro w hSw
      try dsimp only at hSw
      go_simp
      first | (obtain ⟨yb, yc, y0, y1, y2, y3, y4, y5, y6, y7, y8, y9, y10, y11, y12, y13⟩ := hSw; clear yb yc; go_simp) | skip
      try with_reducible rfl
    try simp only [Act.put, List.getElem_toArray, List.getElem_cons_succ, List.getElem_cons_zero, List.setIfInBounds_toArray, List.set_cons_zero, List.set_cons_succ]
    refine AnyBut.takeS (i := 14) (v := ?v13) rfl (by kernel_rfl) (Nat.le_of_eq (by kernel_rfl)) (by kernel_rfl) (by kernel_rfl) (fun _ _ _ h => h) (HS3.out) (Or.inl ⟨by kernel_rfl, ?hy13⟩) ?r13
    case hy13 =>
      intro w hSw
      try dsimp only at hSw
      go_simp
      first | (obtain ⟨yb, yc, y0, y1, y2, y3, y4, y5, y6, y7, y8, y9, y10, y11, y12, y13⟩ := hSw; clear yb yc; go_simp) | skip
      try with_reducible rfl
    try simp only [Act.put, List.getElem_toArray, List.getElem_cons_succ, List.getElem_cons_zero, List.setIfInBounds_toArray, List.set_cons_zero, List.set_cons_succ]
    refine AnyBut.takeS (i := 15) (v := undef) rfl (by kernel_rfl) (Nat.le_of_eq (by kernel_rfl)) (by kernel_rfl) (by kernel_rfl) (fun _ _ _ h => h) (HS3.out) (Or.inr ⟨by kernel_rfl, rfl⟩) ?r14
    try simp only [Act.put, List.getElem_toArray, List.getElem_cons_succ, List.getElem_cons_zero, List.setIfInBounds_toArray, List.set_cons_zero, List.set_cons_succ]
    refine AnyBut.takeS (i := 16) (v := undef) rfl (by kernel_rfl) (Nat.le_of_eq (by kernel_rfl)) (by kernel_rfl) (by kernel_rfl) (fun _ _ _ h => h) (HS3.out) (Or.inr ⟨by kernel_rfl, rfl⟩) ?r15
    try simp only [Act.put, List.getElem_toArray, List.getElem_cons_succ, List.getElem_cons_zero, List.setIfInBounds_toArray, List.set_cons_zero, List.set_cons_succ]
    refine AnyBut.takeS (i := 17) (v := undef) rfl (by kernel_rfl) (Nat.le_of_eq (by kernel_rfl)) (by kernel_rfl) (by kernel_rfl) (fun _ _ _ h => h) (HS3.out) (Or.inr ⟨by kernel_rfl, rfl⟩) ?r16
    try simp only [Act.put, List.getElem_toArray, List.getElem_cons_succ, List.getElem_cons_zero, List.setIfInBounds_toArray, List.set_cons_zero, List.set_cons_succ]
    refine AnyBut.takeS (i := 18) (v := undef) rfl (by kernel_rfl) (Nat.le_of_eq (by kernel_rfl)) (by kernel_rfl) (by kernel_rfl) (fun _ _ _ h => h) (HS3.out) (Or.inr ⟨by kernel_rfl, rfl⟩) ?r17
    try simp only [Act.put, List.getElem_toArray, List.getElem_cons_succ, List.getElem_cons_zero, List.setIfInBounds_toArray, List.set_cons_zero, List.set_cons_succ]
    refine AnyBut.takeS (i := 19) (v := undef) rfl (by kernel_rfl) (Nat.le_of_eq (by kernel_rfl)) (by kernel_rfl) (by kernel_rfl) (fun _ _ _ h => h) (HS3.out) (Or.inr ⟨by kernel_rfl, rfl⟩) ?r18
    try simp only [Act.put, List.getElem_toArray, List.getElem_cons_succ, List.getElem_cons_zero, List.setIfInBounds_toArray, List.set_cons_zero, List.set_cons_succ]
    refine AnyBut.takeS (i := 20) (v := ?v19) rfl (by kernel_rfl) (Nat.le_of_eq (by kernel_rfl)) (by kernel_rfl) (by kernel_rfl) (fun _ _ _ h => h) (HS3.out) (Or.inl ⟨by kernel_rfl, ?hy19⟩) ?r19
    case hy19 =>
      intro w hSw
      try dsimp only at hSw
      go_simp
      first | (obtain ⟨yb, yc, y0, y1, y2, y3, y4, y5, y6, y7, y8, y9, y10, y11, y12, y13⟩ := hSw; clear yb yc; go_simp) | skip
      try with_reducible rfl
    try simp only [Act.put, List.getElem_toArray, List.getElem_cons_succ, List.getElem_cons_zero, List.setIfInBounds_toArray, List.set_cons_zero, List.set_cons_succ]
    refine AnyBut.takeS (i := 21) (v := ?v20) rfl (by kernel_rfl) (Nat.le_of_eq (by kernel_rfl)) (by kernel_rfl) (by kernel_rfl) (fun _ _ _ h => h) (HS3.out) (Or.inl ⟨by kernel_rfl, ?hy20⟩) ?r20
    case hy20 =>
      intro w hSw
      try dsimp only at hSw
      go_simp
      first | (obtain ⟨yb, yc, y0, y1, y2, y3, y4, y5, y6, y7, y8, y9, y10, y11, y12, y13⟩ := hSw; clear yb yc; go_simp) | skip
      try with_reducible rfl
    try simp only [Act.put, List.getElem_toArray, List.getElem_cons_succ, List.getElem_cons_zero, List.setIfInBounds_toArray, List.set_cons_zero, List.set_cons_succ]
    refine AnyBut.done (by kernel_rfl) ?_
    go_wp2
    go_ret
    exact ⟨rfl, HK2.out.trans HK3.out⟩
  | true =>
    have hql := HQL.out
    cases SB with
    | false =>
      go_enter Tryz.func12, Tryz.ntmps12
      go_upto_region 1 with fail
      rw [← HW2.out.1, ← HW2.out.2]
      refine AnyBut.start (S := fun w' => w'.heap[q]? = some (.cells #[.string xname, .slice xaa xal xac, .int .i64 xkind, .int .i64 xtemp, .bool xmono, .int .i64 xstart, .int .i64 xtime, .int .i64 xwhole, .int .u64 xre, .int .u64 xim, .int .i64 xsc, .int .u64 (xze : Int), .int .i64 xpo, .slice xpa xm xpc, .int .i64 xno, .slice xna xn xnc, .int .i64 xflags] 30 (0, 0)) ∧ w'.heap[q + 1]? = some (.cells #[.string yname, .slice yaa yal yac, .int .i64 ykind, .int .i64 ytemp, .bool ymono, .int .i64 ystart, .int .i64 ytime, .int .i64 ywhole, .int .u64 yre, .int .u64 yim, .int .i64 ysc, .int .u64 (yze : Int), .int .i64 ypo, .slice ypa ym ypc, .int .i64 yno, .slice yna yn ync, .int .i64 yflags] 30 (0, 0)) ∧ w'.cell? ⟨q, 1, none⟩ = some (.slice xaa xal xac) ∧ w'.cell? ⟨q, 10, none⟩ = some (.int .i64 xsc) ∧ w'.cell? ⟨q, 11, none⟩ = some (.int .u64 (xze : Int)) ∧ w'.cell? ⟨q, 12, none⟩ = some (.int .i64 xpo) ∧ w'.cell? ⟨q, 13, none⟩ = some (.slice xpa xm xpc) ∧ w'.cell? ⟨q, 14, none⟩ = some (.int .i64 xno) ∧ w'.cell? ⟨q, 15, none⟩ = some (.slice xna xn xnc) ∧ w'.cell? ⟨q + 1, 1, none⟩ = some (.slice yaa yal yac) ∧ w'.cell? ⟨q + 1, 10, none⟩ = some (.int .i64 ysc) ∧ w'.cell? ⟨q + 1, 11, none⟩ = some (.int .u64 (yze : Int)) ∧ w'.cell? ⟨q + 1, 12, none⟩ = some (.int .i64 ypo) ∧ w'.cell? ⟨q + 1, 13, none⟩ = some (.slice ypa ym ypc) ∧ w'.cell? ⟨q + 1, 14, none⟩ = some (.int .i64 yno) ∧ w'.cell? ⟨q + 1, 15, none⟩ = some (.slice yna yn ync)) (k := 22) (by kernel_rfl) ?_
      refine AnyBut.takeS (i := 0) (v := ?v21) rfl (by kernel_rfl) (Nat.le_of_eq (by kernel_rfl)) (by kernel_rfl) (by kernel_rfl) (fun _ _ _ h => h) (HS0.out) (Or.inl ⟨by kernel_rfl, ?hy21⟩) ?r21
      case hy21 =>
        intro w hSw
        try dsimp only at hSw
        refine exec_load_row 30 (.tmp 2) ?_ q ?_ 30 _ (0, 0) _ hSw.1 Tryz.underlying30 rfl point_info
        · rfl
        · rfl
      try simp only [Act.put, List.getElem_toArray, List.getElem_cons_zero, List.setIfInBounds_toArray, List.set_cons_zero, List.set_cons_succ]
      refine AnyBut.takeS (i := 2) (v := ?v22) rfl (by kernel_rfl) (Nat.le_of_eq (by kernel_rfl)) (by kernel_rfl) (by kernel_rfl) (fun _ _ _ h => h) (HS0.out) (Or.inl ⟨by kernel_rfl, ?hy22⟩) ?r22
      case hy22 =>
        intro w hSw
        try dsimp only at hSw
        refine exec_load_row 30 (.tmp 3) ?_ (q + 1) ?_ 30 _ (0, 0) _ hSw.2.1 Tryz.underlying30 rfl point_info
        · rfl
        · rfl
      try simp only [Act.put, List.getElem_toArray, List.getElem_cons_succ, List.getElem_cons_zero, List.setIfInBounds_toArray, List.set_cons_zero, List.set_cons_succ]
      refine AnyBut.one (i := 1) (by kernel_rfl) rfl (fun K hK => ?_)
      go_simp
      go_wp2_with fail
      refine (HPX.out _).mono ?_
      rintro e w4 ⟨rfl, k1⟩
      have HK1 := Lib.hid (HK0.out.trans k1)
      have HS1 := Lib.hid (HSS.out w4 HK1.out)
      clear k1
      go_wp2
      refine hK.out _ _ (HS1.out) ?_
      clear hK K
      try simp only [Act.put, List.getElem_toArray, List.getElem_cons_succ, List.getElem_cons_zero, List.setIfInBounds_toArray, List.set_cons_zero, List.set_cons_succ]
      refine AnyBut.one (i := 3) (by kernel_rfl) rfl (fun K hK => ?_)
      go_simp
      go_wp2_with fail
      refine (HPY.out _).mono ?_
      rintro e w5 ⟨rfl, k3⟩
      have HK3 := Lib.hid (HK1.out.trans k3)
      have HS3 := Lib.hid (HSS.out w5 HK3.out)
      clear k3
      go_wp2
      refine hK.out _ _ (HS3.out) ?_
      clear hK K
      try simp only [Act.put, List.getElem_toArray, List.getElem_cons_succ, List.getElem_cons_zero, List.setIfInBounds_toArray, List.set_cons_zero, List.set_cons_succ]
      refine AnyBut.takeS (i := 4) (v := ?v23) rfl (by kernel_rfl) (Nat.le_of_eq (by kernel_rfl)) (by kernel_rfl) (by kernel_rfl) (fun _ _ _ h => h) (HS3.out) (Or.inl ⟨by kernel_rfl, ?hy23⟩) ?r23
      case hy23 =>
        intro w hSw
        try dsimp only at hSw
        go_simp
        first | (obtain ⟨yb, yc, y0, y1, y2, y3, y4, y5, y6, y7, y8, y9, y10, y11, y12, y13⟩ := hSw; clear yb yc; go_simp) | skip
        try with_reducible rfl
      try simp only [Act.put, List.getElem_toArray, List.getElem_cons_succ, List.getElem_cons_zero, List.setIfInBounds_toArray, List.set_cons_zero, List.set_cons_succ]
      refine AnyBut.takeS (i := 5) (v := ?v24) rfl (by kernel_rfl) (Nat.le_of_eq (by kernel_rfl)) (by kernel_rfl) (by kernel_rfl) (fun _ _ _ h => h) (HS3.out) (Or.inl ⟨by kernel_rfl, ?hy24⟩) ?r24
      case hy24 =>
        intro w hSw
        try dsimp only at hSw
        go_simp
        first | (obtain ⟨yb, yc, y0, y1, y2, y3, y4, y5, y6, y7, y8, y9, y10, y11, y12, y13⟩ := hSw; clear yb yc; go_simp) | skip
        try with_reducible rfl
      try simp only [Act.put, List.getElem_toArray, List.getElem_cons_succ, List.getElem_cons_zero, List.setIfInBounds_toArray, List.set_cons_zero, List.set_cons_succ]
      refine AnyBut.takeS (i := 6) (v := ?v25) rfl (by kernel_rfl) (Nat.le_of_eq (by kernel_rfl)) (by kernel_rfl) (by kernel_rfl) (fun _ _ _ h => h) (HS3.out) (Or.inl ⟨by kernel_rfl, ?hy25⟩) ?r25
      case hy25 =>
        intro w hSw
        try dsimp only at hSw
        go_simp
        first | (obtain ⟨yb, yc, y0, y1, y2, y3, y4, y5, y6, y7, y8, y9, y10, y11, y12, y13⟩ := hSw; clear yb yc; go_simp) | skip
        try with_reducible rfl
      try simp only [Act.put, List.getElem_toArray, List.getElem_cons_succ, List.getElem_cons_zero, List.setIfInBounds_toArray, List.set_cons_zero, List.set_cons_succ]
      refine AnyBut.takeS (i := 7) (v := ?v26) rfl (by kernel_rfl) (Nat.le_of_eq (by kernel_rfl)) (by kernel_rfl) (by kernel_rfl) (fun _ _ _ h => h) (HS3.out) (Or.inl ⟨by kernel_rfl, ?hy26⟩) ?r26
      case hy26 =>
        intro w hSw
        try dsimp only at hSw
        go_simp
        first | (obtain ⟨yb, yc, y0, y1, y2, y3, y4, y5, y6, y7, y8, y9, y10, y11, y12, y13⟩ := hSw; clear yb yc; go_simp) | skip
        try with_reducible rfl
      try simp only [Act.put, List.getElem_toArray, List.getElem_cons_succ, List.getElem_cons_zero, List.setIfInBounds_toArray, List.set_cons_zero, List.set_cons_succ]
      refine AnyBut.takeS (i := 9) (v := ?v27) rfl (by kernel_rfl) (Nat.le_of_eq (by kernel_rfl)) (by kernel_rfl) (by kernel_rfl) (fun _ _ _ h => h) (HS3.out) (Or.inl ⟨by kernel_rfl, ?hy27⟩) ?r27
      case hy27 =>
        intro w hSw
        try dsimp only at hSw
        go_simp
        first | (obtain ⟨yb, yc, y0, y1, y2, y3, y4, y5, y6, y7, y8, y9, y10, y11, y12, y13⟩ := hSw; clear yb yc; go_simp) | skip
        try with_reducible rfl
      try simp only [Act.put, List.getElem_toArray, List.getElem_cons_succ, List.getElem_cons_zero, List.setIfInBounds_toArray, List.set_cons_zero, List.set_cons_succ]
      refine AnyBut.takeS (i := 10) (v := ?v28) rfl (by kernel_rfl) (Nat.le_of_eq (by kernel_rfl)) (by kernel_rfl) (by kernel_rfl) (fun _ _ _ h => h) (HS3.out) (Or.inl ⟨by kernel_rfl, ?hy28⟩) ?r28
      case hy28 =>
        intro w hSw
        try dsimp only at hSw
        go_simp
        first | (obtain ⟨yb, yc, y0, y1, y2, y3, y4, y5, y6, y7, y8, y9, y10, y11, y12, y13⟩ := hSw; clear yb yc; go_simp) | skip
        try with_reducible rfl
      try simp only [Act.put, List.getElem_toArray, List.getElem_cons_succ, List.getElem_cons_zero, List.setIfInBounds_toArray, List.set_cons_zero, List.set_cons_succ]
      refine AnyBut.one (i := 8) (by kernel_rfl) rfl (fun K hK => ?_)
      go_simp
      go_wp2_with fail
      refine (HSX.out _ HK3.out).mono ?_
      rintro e w6 ⟨v8, rfl, m8⟩
      obtain ⟨a8, c8, rfl⟩ := m8.slice
      have HK8 := Lib.hid (HK3.out.trans m8.kept)
      have HM8 := Lib.hid m8
      have HS8 := Lib.hid (HSS.out w6 HK8.out)
      clear m8
      go_wp2
      refine hK.out _ _ (HS8.out) ?_
      clear hK K
      try simp only [Act.put, List.getElem_toArray, List.getElem_cons_succ, List.getElem_cons_zero, List.setIfInBounds_toArray, List.set_cons_zero, List.set_cons_succ]
      refine AnyBut.one (i := 11) (by kernel_rfl) rfl (fun K hK => ?_)
      go_simp
      go_wp2_with fail
      refine (HSY.out _ HK8.out).mono ?_
      rintro e w7 ⟨v11, rfl, m11⟩
      obtain ⟨a11, c11, rfl⟩ := m11.slice
      have HK11 := Lib.hid (HK8.out.trans m11.kept)
      have HM11 := Lib.hid m11
      have HS11 := Lib.hid (HSS.out w7 HK11.out)
      clear m11
      go_wp2
      refine hK.out _ _ (HS11.out) ?_
      clear hK K
      try simp only [Act.put, List.getElem_toArray, List.getElem_cons_succ, List.getElem_cons_zero, List.setIfInBounds_toArray, List.set_cons_zero, List.set_cons_succ]
      refine AnyBut.one (i := 12) (by kernel_rfl) rfl (fun K hK => ?_)
      go_simp
      go_wp2_with fail
      refine (HEQ.out a8 a11 c8 c11 _ (HM8.out.at_.kept HM11.out.kept) HM11.out.at_).mono ?_
      rintro e w8 ⟨rfl, k12⟩
      have HK12 := Lib.hid (HK11.out.trans k12)
      have HS12 := Lib.hid (HSS.out w8 HK12.out)
      clear k12
      go_wp2
      refine hK.out _ _ (HS12.out) ?_
      clear hK K
      try simp only [Act.put, List.getElem_toArray, List.getElem_cons_succ, List.getElem_cons_zero, List.setIfInBounds_toArray, List.set_cons_zero, List.set_cons_succ]
      refine AnyBut.takeS (i := 13) (v := ?v29) rfl (by kernel_rfl) (Nat.le_of_eq (by kernel_rfl)) (by kernel_rfl) (by kernel_rfl) (fun _ _ _ h => h) (HS12.out) (Or.inl ⟨by kernel_rfl, ?hy29⟩) ?r29
      case hy29 =>
        intro w hSw
        try dsimp only at hSw
        go_simp
        first | (obtain ⟨yb, yc, y0, y1, y2, y3, y4, y5, y6, y7, y8, y9, y10, y11, y12, y13⟩ := hSw; clear yb yc; go_simp) | skip
        try with_reducible rfl
      try simp only [Act.put, List.getElem_toArray, List.getElem_cons_succ, List.getElem_cons_zero, List.setIfInBounds_toArray, List.set_cons_zero, List.set_cons_succ]
      refine AnyBut.takeS (i := 14) (v := ?v30) rfl (by kernel_rfl) (Nat.le_of_eq (by kernel_rfl)) (by kernel_rfl) (by kernel_rfl) (fun _ _ _ h => h) (HS12.out) (Or.inl ⟨by kernel_rfl, ?hy30⟩) ?r30
      case hy30 =>
        intro w hSw
        try dsimp only at hSw
        go_simp
        first | (obtain ⟨yb, yc, y0, y1, y2, y3, y4, y5, y6, y7, y8, y9, y10, y11, y12, y13⟩ := hSw; clear yb yc; go_simp) | skip
        try with_reducible rfl
      try simp only [Act.put, List.getElem_toArray, List.getElem_cons_succ, List.getElem_cons_zero, List.setIfInBounds_toArray, List.set_cons_zero, List.set_cons_succ]
      refine AnyBut.takeS (i := 15) (v := undef) rfl (by kernel_rfl) (Nat.le_of_eq (by kernel_rfl)) (by kernel_rfl) (by kernel_rfl) (fun _ _ _ h => h) (HS12.out) (Or.inr ⟨by kernel_rfl, rfl⟩) ?r31
      try simp only [Act.put, List.getElem_toArray, List.getElem_cons_succ, List.getElem_cons_zero, List.setIfInBounds_toArray, List.set_cons_zero, List.set_cons_succ]
      refine AnyBut.takeS (i := 16) (v := undef) rfl (by kernel_rfl) (Nat.le_of_eq (by kernel_rfl)) (by kernel_rfl) (by kernel_rfl) (fun _ _ _ h => h) (HS12.out) (Or.inr ⟨by kernel_rfl, rfl⟩) ?r32
      try simp only [Act.put, List.getElem_toArray, List.getElem_cons_succ, List.getElem_cons_zero, List.setIfInBounds_toArray, List.set_cons_zero, List.set_cons_succ]
      refine AnyBut.takeS (i := 17) (v := undef) rfl (by kernel_rfl) (Nat.le_of_eq (by kernel_rfl)) (by kernel_rfl) (by kernel_rfl) (fun _ _ _ h => h) (HS12.out) (Or.inr ⟨by kernel_rfl, rfl⟩) ?r33
      try simp only [Act.put, List.getElem_toArray, List.getElem_cons_succ, List.getElem_cons_zero, List.setIfInBounds_toArray, List.set_cons_zero, List.set_cons_succ]
      refine AnyBut.takeS (i := 18) (v := undef) rfl (by kernel_rfl) (Nat.le_of_eq (by kernel_rfl)) (by kernel_rfl) (by kernel_rfl) (fun _ _ _ h => h) (HS12.out) (Or.inr ⟨by kernel_rfl, rfl⟩) ?r34
      try simp only [Act.put, List.getElem_toArray, List.getElem_cons_succ, List.getElem_cons_zero, List.setIfInBounds_toArray, List.set_cons_zero, List.set_cons_succ]
      refine AnyBut.takeS (i := 19) (v := undef) rfl (by kernel_rfl) (Nat.le_of_eq (by kernel_rfl)) (by kernel_rfl) (by kernel_rfl) (fun _ _ _ h => h) (HS12.out) (Or.inr ⟨by kernel_rfl, rfl⟩) ?r35
      try simp only [Act.put, List.getElem_toArray, List.getElem_cons_succ, List.getElem_cons_zero, List.setIfInBounds_toArray, List.set_cons_zero, List.set_cons_succ]
      refine AnyBut.takeS (i := 20) (v := ?v36) rfl (by kernel_rfl) (Nat.le_of_eq (by kernel_rfl)) (by kernel_rfl) (by kernel_rfl) (fun _ _ _ h => h) (HS12.out) (Or.inl ⟨by kernel_rfl, ?hy36⟩) ?r36
      case hy36 =>
        intro w hSw
        try dsimp only at hSw
        go_simp
        first | (obtain ⟨yb, yc, y0, y1, y2, y3, y4, y5, y6, y7, y8, y9, y10, y11, y12, y13⟩ := hSw; clear yb yc; go_simp) | skip
        try with_reducible rfl
      try simp only [Act.put, List.getElem_toArray, List.getElem_cons_succ, List.getElem_cons_zero, List.setIfInBounds_toArray, List.set_cons_zero, List.set_cons_succ]
      refine AnyBut.takeS (i := 21) (v := ?v37) rfl (by kernel_rfl) (Nat.le_of_eq (by kernel_rfl)) (by kernel_rfl) (by kernel_rfl) (fun _ _ _ h => h) (HS12.out) (Or.inl ⟨by kernel_rfl, ?hy37⟩) ?r37
      case hy37 =>
        intro w hSw
        try dsimp only at hSw
        go_simp
        first | (obtain ⟨yb, yc, y0, y1, y2, y3, y4, y5, y6, y7, y8, y9, y10, y11, y12, y13⟩ := hSw; clear yb yc; go_simp) | skip
        try with_reducible rfl
      try simp only [Act.put, List.getElem_toArray, List.getElem_cons_succ, List.getElem_cons_zero, List.setIfInBounds_toArray, List.set_cons_zero, List.set_cons_succ]
      refine AnyBut.done (by kernel_rfl) ?_
      go_wp2
      go_ret
      exact ⟨rfl, HK2.out.trans HK12.out⟩
    | true =>
      go_enter Tryz.func12, Tryz.ntmps12
      go_upto_region 1 with fail
      rw [← HW2.out.1, ← HW2.out.2]
      refine AnyBut.start (S := fun w' => w'.heap[q]? = some (.cells #[.string xname, .slice xaa xal xac, .int .i64 xkind, .int .i64 xtemp, .bool xmono, .int .i64 xstart, .int .i64 xtime, .int .i64 xwhole, .int .u64 xre, .int .u64 xim, .int .i64 xsc, .int .u64 (xze : Int), .int .i64 xpo, .slice xpa xm xpc, .int .i64 xno, .slice xna xn xnc, .int .i64 xflags] 30 (0, 0)) ∧ w'.heap[q + 1]? = some (.cells #[.string yname, .slice yaa yal yac, .int .i64 ykind, .int .i64 ytemp, .bool ymono, .int .i64 ystart, .int .i64 ytime, .int .i64 ywhole, .int .u64 yre, .int .u64 yim, .int .i64 ysc, .int .u64 (yze : Int), .int .i64 ypo, .slice ypa ym ypc, .int .i64 yno, .slice yna yn ync, .int .i64 yflags] 30 (0, 0)) ∧ w'.cell? ⟨q, 1, none⟩ = some (.slice xaa xal xac) ∧ w'.cell? ⟨q, 10, none⟩ = some (.int .i64 xsc) ∧ w'.cell? ⟨q, 11, none⟩ = some (.int .u64 (xze : Int)) ∧ w'.cell? ⟨q, 12, none⟩ = some (.int .i64 xpo) ∧ w'.cell? ⟨q, 13, none⟩ = some (.slice xpa xm xpc) ∧ w'.cell? ⟨q, 14, none⟩ = some (.int .i64 xno) ∧ w'.cell? ⟨q, 15, none⟩ = some (.slice xna xn xnc) ∧ w'.cell? ⟨q + 1, 1, none⟩ = some (.slice yaa yal yac) ∧ w'.cell? ⟨q + 1, 10, none⟩ = some (.int .i64 ysc) ∧ w'.cell? ⟨q + 1, 11, none⟩ = some (.int .u64 (yze : Int)) ∧ w'.cell? ⟨q + 1, 12, none⟩ = some (.int .i64 ypo) ∧ w'.cell? ⟨q + 1, 13, none⟩ = some (.slice ypa ym ypc) ∧ w'.cell? ⟨q + 1, 14, none⟩ = some (.int .i64 yno) ∧ w'.cell? ⟨q + 1, 15, none⟩ = some (.slice yna yn ync)) (k := 22) (by kernel_rfl) ?_
      refine AnyBut.takeS (i := 0) (v := ?v38) rfl (by kernel_rfl) (Nat.le_of_eq (by kernel_rfl)) (by kernel_rfl) (by kernel_rfl) (fun _ _ _ h => h) (HS0.out) (Or.inl ⟨by kernel_rfl, ?hy38⟩) ?r38
      case hy38 =>
        intro w hSw
        try dsimp only at hSw
        refine exec_load_row 30 (.tmp 2) ?_ q ?_ 30 _ (0, 0) _ hSw.1 Tryz.underlying30 rfl point_info
        · rfl
        · rfl
      try simp only [Act.put, List.getElem_toArray, List.getElem_cons_zero, List.setIfInBounds_toArray, List.set_cons_zero, List.set_cons_succ]
      refine AnyBut.takeS (i := 2) (v := ?v39) rfl (by kernel_rfl) (Nat.le_of_eq (by kernel_rfl)) (by kernel_rfl) (by kernel_rfl) (fun _ _ _ h => h) (HS0.out) (Or.inl ⟨by kernel_rfl, ?hy39⟩) ?r39
      case hy39 =>
        intro w hSw
        try dsimp only at hSw
        refine exec_load_row 30 (.tmp 3) ?_ (q + 1) ?_ 30 _ (0, 0) _ hSw.2.1 Tryz.underlying30 rfl point_info
        · rfl
        · rfl
      try simp only [Act.put, List.getElem_toArray, List.getElem_cons_succ, List.getElem_cons_zero, List.setIfInBounds_toArray, List.set_cons_zero, List.set_cons_succ]
      refine AnyBut.one (i := 1) (by kernel_rfl) rfl (fun K hK => ?_)
      go_simp
      go_wp2_with fail
      refine (HPX.out _).mono ?_
      rintro e w4 ⟨rfl, k1⟩
      have HK1 := Lib.hid (HK0.out.trans k1)
      have HS1 := Lib.hid (HSS.out w4 HK1.out)
      clear k1
      go_wp2
      refine hK.out _ _ (HS1.out) ?_
      clear hK K
      try simp only [Act.put, List.getElem_toArray, List.getElem_cons_succ, List.getElem_cons_zero, List.setIfInBounds_toArray, List.set_cons_zero, List.set_cons_succ]
      refine AnyBut.one (i := 3) (by kernel_rfl) rfl (fun K hK => ?_)
      go_simp
      go_wp2_with fail
      refine (HPY.out _).mono ?_
      rintro e w5 ⟨rfl, k3⟩
      have HK3 := Lib.hid (HK1.out.trans k3)
      have HS3 := Lib.hid (HSS.out w5 HK3.out)
      clear k3
      go_wp2
      refine hK.out _ _ (HS3.out) ?_
      clear hK K
      try simp only [Act.put, List.getElem_toArray, List.getElem_cons_succ, List.getElem_cons_zero, List.setIfInBounds_toArray, List.set_cons_zero, List.set_cons_succ]
      refine AnyBut.takeS (i := 4) (v := ?v40) rfl (by kernel_rfl) (Nat.le_of_eq (by kernel_rfl)) (by kernel_rfl) (by kernel_rfl) (fun _ _ _ h => h) (HS3.out) (Or.inl ⟨by kernel_rfl, ?hy40⟩) ?r40
      case hy40 =>
        intro w hSw
        try dsimp only at hSw
        go_simp
        first | (obtain ⟨yb, yc, y0, y1, y2, y3, y4, y5, y6, y7, y8, y9, y10, y11, y12, y13⟩ := hSw; clear yb yc; go_simp) | skip
        try with_reducible rfl
      try simp only [Act.put, List.getElem_toArray, List.getElem_cons_succ, List.getElem_cons_zero, List.setIfInBounds_toArray, List.set_cons_zero, List.set_cons_succ]
      refine AnyBut.takeS (i := 5) (v := ?v41) rfl (by kernel_rfl) (Nat.le_of_eq (by kernel_rfl)) (by kernel_rfl) (by kernel_rfl) (fun _ _ _ h => h) (HS3.out) (Or.inl ⟨by kernel_rfl, ?hy41⟩) ?r41
      case hy41 =>
        intro w hSw
        try dsimp only at hSw
        go_simp
        first | (obtain ⟨yb, yc, y0, y1, y2, y3, y4, y5, y6, y7, y8, y9, y10, y11, y12, y13⟩ := hSw; clear yb yc; go_simp) | skip
        try with_reducible rfl
      try simp only [Act.put, List.getElem_toArray, List.getElem_cons_succ, List.getElem_cons_zero, List.setIfInBounds_toArray, List.set_cons_zero, List.set_cons_succ]
      refine AnyBut.takeS (i := 6) (v := ?v42) rfl (by kernel_rfl) (Nat.le_of_eq (by kernel_rfl)) (by kernel_rfl) (by kernel_rfl) (fun _ _ _ h => h) (HS3.out) (Or.inl ⟨by kernel_rfl, ?hy42⟩) ?r42
      case hy42 =>
        intro w hSw
        try dsimp only at hSw
        go_simp
        first | (obtain ⟨yb, yc, y0, y1, y2, y3, y4, y5, y6, y7, y8, y9, y10, y11, y12, y13⟩ := hSw; clear yb yc; go_simp) | skip
        try with_reducible rfl
      try simp only [Act.put, List.getElem_toArray, List.getElem_cons_succ, List.getElem_cons_zero, List.setIfInBounds_toArray, List.set_cons_zero, List.set_cons_succ]
      refine AnyBut.takeS (i := 7) (v := ?v43) rfl (by kernel_rfl) (Nat.le_of_eq (by kernel_rfl)) (by kernel_rfl) (by kernel_rfl) (fun _ _ _ h => h) (HS3.out) (Or.inl ⟨by kernel_rfl, ?hy43⟩) ?r43
      case hy43 =>
        intro w hSw
        try dsimp only at hSw
        go_simp
        first | (obtain ⟨yb, yc, y0, y1, y2, y3, y4, y5, y6, y7, y8, y9, y10, y11, y12, y13⟩ := hSw; clear yb yc; go_simp) | skip
        try with_reducible rfl
      try simp only [Act.put, List.getElem_toArray, List.getElem_cons_succ, List.getElem_cons_zero, List.setIfInBounds_toArray, List.set_cons_zero, List.set_cons_succ]
      refine AnyBut.takeS (i := 9) (v := ?v44) rfl (by kernel_rfl) (Nat.le_of_eq (by kernel_rfl)) (by kernel_rfl) (by kernel_rfl) (fun _ _ _ h => h) (HS3.out) (Or.inl ⟨by kernel_rfl, ?hy44⟩) ?r44
      case hy44 =>
        intro w hSw
        try dsimp only at hSw
        go_simp
        first | (obtain ⟨yb, yc, y0, y1, y2, y3, y4, y5, y6, y7, y8, y9, y10, y11, y12, y13⟩ := hSw; clear yb yc; go_simp) | skip
        try with_reducible rfl
      try simp only [Act.put, List.getElem_toArray, List.getElem_cons_succ, List.getElem_cons_zero, List.setIfInBounds_toArray, List.set_cons_zero, List.set_cons_succ]
      refine AnyBut.takeS (i := 10) (v := ?v45) rfl (by kernel_rfl) (Nat.le_of_eq (by kernel_rfl)) (by kernel_rfl) (by kernel_rfl) (fun _ _ _ h => h) (HS3.out) (Or.inl ⟨by kernel_rfl, ?hy45⟩) ?r45
      case hy45 =>
        intro w hSw
        try dsimp only at hSw
        go_simp
        first | (obtain ⟨yb, yc, y0, y1, y2, y3, y4, y5, y6, y7, y8, y9, y10, y11, y12, y13⟩ := hSw; clear yb yc; go_simp) | skip
        try with_reducible rfl
      try simp only [Act.put, List.getElem_toArray, List.getElem_cons_succ, List.getElem_cons_zero, List.setIfInBounds_toArray, List.set_cons_zero, List.set_cons_succ]
      refine AnyBut.one (i := 8) (by kernel_rfl) rfl (fun K hK => ?_)
      go_simp
      go_wp2_with fail
      refine (HSX.out _ HK3.out).mono ?_
      rintro e w6 ⟨v8, rfl, m8⟩
      obtain ⟨a8, c8, rfl⟩ := m8.slice
      have HK8 := Lib.hid (HK3.out.trans m8.kept)
      have HM8 := Lib.hid m8
      have HS8 := Lib.hid (HSS.out w6 HK8.out)
      clear m8
      go_wp2
      refine hK.out _ _ (HS8.out) ?_
      clear hK K
      try simp only [Act.put, List.getElem_toArray, List.getElem_cons_succ, List.getElem_cons_zero, List.setIfInBounds_toArray, List.set_cons_zero, List.set_cons_succ]
      refine AnyBut.one (i := 11) (by kernel_rfl) rfl (fun K hK => ?_)
      go_simp
      go_wp2_with fail
      refine (HSY.out _ HK8.out).mono ?_
      rintro e w7 ⟨v11, rfl, m11⟩
      obtain ⟨a11, c11, rfl⟩ := m11.slice
      have HK11 := Lib.hid (HK8.out.trans m11.kept)
      have HM11 := Lib.hid m11
      have HS11 := Lib.hid (HSS.out w7 HK11.out)
      clear m11
      go_wp2
      refine hK.out _ _ (HS11.out) ?_
      clear hK K
      try simp only [Act.put, List.getElem_toArray, List.getElem_cons_succ, List.getElem_cons_zero, List.setIfInBounds_toArray, List.set_cons_zero, List.set_cons_succ]
      refine AnyBut.one (i := 12) (by kernel_rfl) rfl (fun K hK => ?_)
      go_simp
      go_wp2_with fail
      refine (HEQ.out a8 a11 c8 c11 _ (HM8.out.at_.kept HM11.out.kept) HM11.out.at_).mono ?_
      rintro e w8 ⟨rfl, k12⟩
      have HK12 := Lib.hid (HK11.out.trans k12)
      have HS12 := Lib.hid (HSS.out w8 HK12.out)
      clear k12
      go_wp2
      refine hK.out _ _ (HS12.out) ?_
      clear hK K
      try simp only [Act.put, List.getElem_toArray, List.getElem_cons_succ, List.getElem_cons_zero, List.setIfInBounds_toArray, List.set_cons_zero, List.set_cons_succ]
      refine AnyBut.takeS (i := 13) (v := ?v46) rfl (by kernel_rfl) (Nat.le_of_eq (by kernel_rfl)) (by kernel_rfl) (by kernel_rfl) (fun _ _ _ h => h) (HS12.out) (Or.inl ⟨by kernel_rfl, ?hy46⟩) ?r46
      case hy46 =>
        intro w hSw
        try dsimp only at hSw
        go_simp
        first | (obtain ⟨yb, yc, y0, y1, y2, y3, y4, y5, y6, y7, y8, y9, y10, y11, y12, y13⟩ := hSw; clear yb yc; go_simp) | skip
        try with_reducible rfl
      try simp only [Act.put, List.getElem_toArray, List.getElem_cons_succ, List.getElem_cons_zero, List.setIfInBounds_toArray, List.set_cons_zero, List.set_cons_succ]
      refine AnyBut.takeS (i := 14) (v := ?v47) rfl (by kernel_rfl) (Nat.le_of_eq (by kernel_rfl)) (by kernel_rfl) (by kernel_rfl) (fun _ _ _ h => h) (HS12.out) (Or.inl ⟨by kernel_rfl, ?hy47⟩) ?r47
      case hy47 =>
        intro w hSw
        try dsimp only at hSw
        go_simp
        first | (obtain ⟨yb, yc, y0, y1, y2, y3, y4, y5, y6, y7, y8, y9, y10, y11, y12, y13⟩ := hSw; clear yb yc; go_simp) | skip
        try with_reducible rfl
      try simp only [Act.put, List.getElem_toArray, List.getElem_cons_succ, List.getElem_cons_zero, List.setIfInBounds_toArray, List.set_cons_zero, List.set_cons_succ]
      refine AnyBut.takeS (i := 15) (v := ?v48) rfl (by kernel_rfl) (Nat.le_of_eq (by kernel_rfl)) (by kernel_rfl) (by kernel_rfl) (fun _ _ _ h => h) (HS12.out) (Or.inl ⟨by kernel_rfl, ?hy48⟩) ?r48
      case hy48 =>
        intro w hSw
        try dsimp only at hSw
        go_simp
        first | (obtain ⟨yb, yc, y0, y1, y2, y3, y4, y5, y6, y7, y8, y9, y10, y11, y12, y13⟩ := hSw; clear yb yc; go_simp) | skip
        try with_reducible rfl
      try simp only [Act.put, List.getElem_toArray, List.getElem_cons_succ, List.getElem_cons_zero, List.setIfInBounds_toArray, List.set_cons_zero, List.set_cons_succ]
      refine AnyBut.takeS (i := 16) (v := ?v49) rfl (by kernel_rfl) (Nat.le_of_eq (by kernel_rfl)) (by kernel_rfl) (by kernel_rfl) (fun _ _ _ h => h) (HS12.out) (Or.inl ⟨by kernel_rfl, ?hy49⟩) ?r49
      case hy49 =>
        intro w hSw
        try dsimp only at hSw
        go_simp
        first | (obtain ⟨yb, yc, y0, y1, y2, y3, y4, y5, y6, y7, y8, y9, y10, y11, y12, y13⟩ := hSw; clear yb yc; go_simp) | skip
        try with_reducible rfl
      try simp only [Act.put, List.getElem_toArray, List.getElem_cons_succ, List.getElem_cons_zero, List.setIfInBounds_toArray, List.set_cons_zero, List.set_cons_succ]
      refine AnyBut.takeS (i := 17) (v := ?v50) rfl (by kernel_rfl) (Nat.le_of_eq (by kernel_rfl)) (by kernel_rfl) (by kernel_rfl) (fun _ _ _ h => h) (HS12.out) (Or.inl ⟨by kernel_rfl, ?hy50⟩) ?r50
      case hy50 =>
        intro w hSw
        try dsimp only at hSw
        go_simp
        first | (obtain ⟨yb, yc, y0, y1, y2, y3, y4, y5, y6, y7, y8, y9, y10, y11, y12, y13⟩ := hSw; clear yb yc; go_simp) | skip
        try with_reducible rfl
      try simp only [Act.put, List.getElem_toArray, List.getElem_cons_succ, List.getElem_cons_zero, List.setIfInBounds_toArray, List.set_cons_zero, List.set_cons_succ]
      refine AnyBut.takeS (i := 18) (v := ?v51) rfl (by kernel_rfl) (Nat.le_of_eq (by kernel_rfl)) (by kernel_rfl) (by kernel_rfl) (fun _ _ _ h => h) (HS12.out) (Or.inl ⟨by kernel_rfl, ?hy51⟩) ?r51
      case hy51 =>
        intro w hSw
        try dsimp only at hSw
        go_simp
        first | (obtain ⟨yb, yc, y0, y1, y2, y3, y4, y5, y6, y7, y8, y9, y10, y11, y12, y13⟩ := hSw; clear yb yc; go_simp) | skip
        try with_reducible rfl
      try simp only [Act.put, List.getElem_toArray, List.getElem_cons_succ, List.getElem_cons_zero, List.setIfInBounds_toArray, List.set_cons_zero, List.set_cons_succ]
      refine AnyBut.one (i := 19) (by kernel_rfl) rfl (fun K hK => ?_)
      go_simp
      go_wp2_with fail
      refine (HHS.out _ HK12.out).mono ?_
      rintro e w9 ⟨rfl, k19⟩
      have HK19 := Lib.hid (HK12.out.trans k19)
      have HS19 := Lib.hid (HSS.out w9 HK19.out)
      clear k19
      go_wp2
      refine hK.out _ _ (HS19.out) ?_
      clear hK K
      try simp only [Act.put, List.getElem_toArray, List.getElem_cons_succ, List.getElem_cons_zero, List.setIfInBounds_toArray, List.set_cons_zero, List.set_cons_succ]
      refine AnyBut.takeS (i := 20) (v := ?v52) rfl (by kernel_rfl) (Nat.le_of_eq (by kernel_rfl)) (by kernel_rfl) (by kernel_rfl) (fun _ _ _ h => h) (HS19.out) (Or.inl ⟨by kernel_rfl, ?hy52⟩) ?r52
      case hy52 =>
        intro w hSw
        try dsimp only at hSw
        go_simp
        first | (obtain ⟨yb, yc, y0, y1, y2, y3, y4, y5, y6, y7, y8, y9, y10, y11, y12, y13⟩ := hSw; clear yb yc; go_simp) | skip
        try with_reducible rfl
      try simp only [Act.put, List.getElem_toArray, List.getElem_cons_succ, List.getElem_cons_zero, List.setIfInBounds_toArray, List.set_cons_zero, List.set_cons_succ]
      refine AnyBut.takeS (i := 21) (v := ?v53) rfl (by kernel_rfl) (Nat.le_of_eq (by kernel_rfl)) (by kernel_rfl) (by kernel_rfl) (fun _ _ _ h => h) (HS19.out) (Or.inl ⟨by kernel_rfl, ?hy53⟩) ?r53
      case hy53 =>
        intro w hSw
        try dsimp only at hSw
        go_simp
        first | (obtain ⟨yb, yc, y0, y1, y2, y3, y4, y5, y6, y7, y8, y9, y10, y11, y12, y13⟩ := hSw; clear yb yc; go_simp) | skip
        try with_reducible rfl
      try simp only [Act.put, List.getElem_toArray, List.getElem_cons_succ, List.getElem_cons_zero, List.setIfInBounds_toArray, List.set_cons_zero, List.set_cons_succ]
      refine AnyBut.done (by kernel_rfl) ?_
      go_wp2
      go_ret
      exact ⟨by simp, HK2.out.trans HK19.out⟩
end Go.Proofs.YteflepcmblacaaaGreatDoor
