/- Layer 12: a point's bytes (written by tools/gen_XI7.py). -/
import Derived.Test.YteflepcmblacaaaGreatDoorI2
import Derived.Test.YteflepcmblacaaaGreatDoorI6
namespace Go.Proofs.YteflepcmblacaaaGreatDoor
open Go.RowKit
attribute [local go_sem ↓] Go.wp_at_zero Go.wp_at_succ

def numsI (l : List Int) : List Int := l.flatMap numB
theorem numsI_len (l : List Int) : (numsI l).length ≤ 9 * l.length := by
  unfold numsI
  induction l with
  | nil => simp
  | cons a r ih =>
    rw [List.flatMap_cons, List.length_append, List.length_cons]
    have := numB_len a
    omega
/-- The numbers with which a point's bytes begin. -/
def heads (x : Pnt) : List Int := [x.kind, x.temp, monoI x.mono, x.flags, x.start, x.time - x.start]
/-- A label's text, as bytes. -/
def txt (x : Pnt) : ByteArray := (textT x.name x.L).1
def pntB (x : Pnt) : List Int := numB (txt x).size ++ strB (txt x) ++ numsI (heads x) ++ bytesV x
/-- What a right point is like. -/
structure Pnt.right (x : Pnt) : Prop where
  lab : checkE x.name x.L = 0
  kind : kindB x = true
  times : timesB x = true
  own : ownB x = true
  flags : 0 ≤ x.flags ∧ x.flags ≤ 31
  hist : x.h.err = 0
theorem right_of {x : Pnt} (h : chk x = 0) : x.right := by
  unfold chk at h
  by_cases h1 : checkE x.name x.L = 0
  · rw [if_neg (by omega)] at h
    by_cases h2 : kindB x = false
    · rw [if_pos h2] at h; cases h
    rw [if_neg h2] at h
    by_cases h3 : (x.mono = true ∧ sumB x = false) ∨ timesB x = false
    · rw [if_pos h3] at h; cases h
    rw [if_neg h3] at h
    by_cases h4 : ownB x = false ∨ x.flags < 0 ∨ 31 < x.flags
    · rw [if_pos h4] at h; cases h
    rw [if_neg h4] at h
    by_cases h5 : x.mono = true ∧ finI x.re = false
    · rw [if_pos h5] at h; cases h
    rw [if_neg h5] at h
    by_cases h6 : x.mono = true ∧ (x.whole < 0 ∨ lessI x.re 0 = true)
    · rw [if_pos h6] at h; cases h
    rw [if_neg h6] at h
    refine ⟨h1, by cases e : kindB x; exact absurd e h2; rfl, ?_, ?_, ?_, h⟩
    · cases e : timesB x
      · exact absurd (.inr e) h3
      · rfl
    · cases e : ownB x
      · exact absurd (.inl e) h4
      · rfl
    · exact ⟨by apply Classical.byContradiction; intro c; exact h4 (.inr (.inl (by omega))), by apply Classical.byContradiction; intro c; exact h4 (.inr (.inr (by omega)))⟩
  · rw [if_pos h1] at h; exact absurd h h1
theorem Pnt.right.kinds {x : Pnt} (h : x.right) : (1 ≤ x.kind ∧ x.kind ≤ 5) ∧ (0 ≤ x.temp ∧ x.temp ≤ 2) := by
  have := of_decide_eq_true h.kind
  omega
theorem Pnt.right.time {x : Pnt} (h : x.right) : 0 ≤ x.start ∧ x.start ≤ x.time ∧ x.time ≤ 4503599627370496 := by
  have h1 := of_decide_eq_true h.times
  by_cases e : x.kind = 3
  · rw [if_pos e] at h1; omega
  · rw [if_neg e] at h1; omega
theorem txt_size {x : Pnt} (h : x.light) : (txt x).size ≤ 41040 := by
  unfold txt textT
  split
  · show 0 ≤ 41040; omega
  · have := textN_size x.name (sortP x.L) x.L.length (fun p hp => h.sh p ((sortP_perm x.L).mem_iff.1 hp)) (by rw [(sortP_perm x.L).length_eq]; exact Nat.le_refl _)
    have h1 := h.name
    have h2 := h.len
    dsimp only
    omega
theorem ix6_0 (a b c d e f : Int) (w : World) : (Instr.index 55 (.agg #[.int .i64 a, .int .i64 b, .int .i64 c, .int .i64 d, .int .i64 e, .int .i64 f]) (.int .i64 0)).run Tryz.prog w = .ok (.int .i64 a) w := by kernel_rfl
theorem ix6_1 (a b c d e f : Int) (w : World) : (Instr.index 55 (.agg #[.int .i64 a, .int .i64 b, .int .i64 c, .int .i64 d, .int .i64 e, .int .i64 f]) (.int .i64 1)).run Tryz.prog w = .ok (.int .i64 b) w := by kernel_rfl
theorem ix6_2 (a b c d e f : Int) (w : World) : (Instr.index 55 (.agg #[.int .i64 a, .int .i64 b, .int .i64 c, .int .i64 d, .int .i64 e, .int .i64 f]) (.int .i64 2)).run Tryz.prog w = .ok (.int .i64 c) w := by kernel_rfl
theorem ix6_3 (a b c d e f : Int) (w : World) : (Instr.index 55 (.agg #[.int .i64 a, .int .i64 b, .int .i64 c, .int .i64 d, .int .i64 e, .int .i64 f]) (.int .i64 3)).run Tryz.prog w = .ok (.int .i64 d) w := by kernel_rfl
theorem ix6_4 (a b c d e f : Int) (w : World) : (Instr.index 55 (.agg #[.int .i64 a, .int .i64 b, .int .i64 c, .int .i64 d, .int .i64 e, .int .i64 f]) (.int .i64 4)).run Tryz.prog w = .ok (.int .i64 e) w := by kernel_rfl
theorem ix6_5 (a b c d e f : Int) (w : World) : (Instr.index 55 (.agg #[.int .i64 a, .int .i64 b, .int .i64 c, .int .i64 d, .int .i64 e, .int .i64 f]) (.int .i64 5)).run Tryz.prog w = .ok (.int .i64 f) w := by kernel_rfl
/-- What Bytes answers. -/
def BytesTo (x : Pnt) (w : World) (e : Ending) (w' : World) : Prop :=
  (chk x ≠ 0 ∧ e = .returned (.tuple #[.slice none 0 0, .int .i64 ((chk x : Nat) : Int)]) ∧ Kept (fun _ => False) w w') ∨
  (chk x = 0 ∧ ∃ v, e = .returned (.tuple #[v, .int .i64 0]) ∧ w'.ownsRow w.heap.size 5 1 v (pntB x).length (u8s (pntB x)) ∧ Kept (fun _ => False) w w')
set_option maxRecDepth 100000 in
set_option maxHeartbeats 16000000 in
theorem pBytes_any (x : Pnt) (aa pa na : Option Addr) (ac pc nc : Nat) (w : World) (ha : PntAt w x aa ac (.slice pa x.h.pl.length pc) (.slice na x.h.nl.length nc)) (hok : x.ok) (hli : x.light) :
    Calls Tryz.prog 7 #[pntV x (.slice aa x.L.length ac) (.slice pa x.h.pl.length pc) (.slice na x.h.nl.length nc)] w (BytesTo x w) := by
  have HCH := Lib.hid (fun w' (k : Kept (fun _ => False) w w') => pCheck_any x aa pa na ac pc nc w' (ha.on k) hok hli)
  have HTX := Lib.hid (fun w' (k : Kept (fun _ => False) w w') => ltext_any x.name aa ac x.L w' (ha.ps.kept k) ha.cap (by have := hli.len; omega) hli.name hli.sh)
  have HMO := Lib.hid (fun w' => monoOf_any x (.slice aa x.L.length ac) (.slice pa x.h.pl.length pc) (.slice na x.h.nl.length nc) w')
  have HPV := Lib.hid (fun (W w' : World) (p : Nat) (l : List Int) (k : Kept (fun _ => False) w W) (h : WK W w' p l) (hl : l.length ≤ 70000) => putValue_any x (.slice aa x.L.length ac) pa na pc nc h hl (ha.hist.on k) hok hli.pl hli.nl)
  obtain ⟨Q, hQ⟩ : ∃ Q, Q = BytesTo x w := ⟨_, rfl⟩
  have HQN : Hid (∀ w', chk x ≠ 0 → Kept (fun _ => False) w w' → Q (.returned (.tuple #[.slice none 0 0, .int .i64 ((chk x : Nat) : Int)])) w') := Lib.hid (fun w' h k => by rw [hQ]; exact .inl ⟨h, rfl, k⟩)
  have HQY : Hid (∀ w' v, chk x = 0 → w'.ownsRow w.heap.size 5 1 v (pntB x).length (u8s (pntB x)) → Kept (fun _ => False) w w' → Q (.returned (.tuple #[v, .int .i64 0])) w') := Lib.hid (fun w' v h o k => by rw [hQ]; exact .inr ⟨h, v, rfl, o, k⟩)
  rw [← hQ]
  have HRT := Lib.hid (fun (h : chk x = 0) => right_of h)
  have HTS := Lib.hid (And.intro (txt_size hli) (bytesV_len x hli.pl hli.nl))
  obtain ⟨tt, htt⟩ : ∃ t, t = txt x := ⟨_, rfl⟩
  have htt' : (textT x.name x.L).1 = tt := htt.symm
  obtain ⟨te, hte⟩ : ∃ t, t = (textT x.name x.L).2 := ⟨_, rfl⟩
  rw [htt', ← hte] at HTX
  obtain ⟨CK, hCK⟩ : ∃ c, c = chk x := ⟨_, rfl⟩
  rw [← hCK] at HCH HQN HQY HRT
  obtain ⟨BV, hBV⟩ : ∃ b, b = bytesV x := ⟨_, rfl⟩
  rw [← hBV] at HPV HTS
  rw [← htt] at HTS
  obtain ⟨PB, hPB⟩ : ∃ b, b = pntB x := ⟨_, rfl⟩
  have HPB : Hid (PB = numB tt.size ++ strB tt ++ numsI (heads x) ++ BV) := Lib.hid (by rw [hPB, htt, hBV]; rfl)
  rw [← hPB] at HQY
  have HRG : Hid (CK = 0 → ((1 ≤ x.kind ∧ x.kind ≤ 5) ∧ (0 ≤ x.temp ∧ x.temp ≤ 2)) ∧ (0 ≤ x.start ∧ x.start ≤ x.time ∧ x.time ≤ 4503599627370496) ∧ (0 ≤ x.flags ∧ x.flags ≤ 31)) := Lib.hid (fun h => ⟨(HRT.out h).kinds, (HRT.out h).time, (HRT.out h).flags⟩)
  have HMI : Hid (0 ≤ monoI x.mono ∧ monoI x.mono ≤ 1) := Lib.hid (by unfold monoI; split <;> omega)
  unfold heads at HPB
  obtain ⟨mi, hmi⟩ : ∃ m, m = monoI x.mono := ⟨_, rfl⟩
  rw [← hmi] at HMO HMI HPB
  clear ha hok hli hQ HRT htt htt' hte hCK hBV hPB hmi
  unfold pntV pntC at HCH HMO HPV ⊢
  obtain ⟨name, L, kind, temp, mono, start, time, whole, re, im, ⟨sc, ze, po, pl, no, nl⟩, flags⟩ := x
  dsimp only at HCH HTX HMO HPV HPB HRG ⊢
  obtain ⟨al, hal⟩ : ∃ m, m = L.length := ⟨_, rfl⟩
  obtain ⟨m, hm⟩ : ∃ m, m = pl.length := ⟨_, rfl⟩
  obtain ⟨n, hn⟩ : ∃ n, n = nl.length := ⟨_, rfl⟩
  rw [← hm, ← hn, ← hal] at HCH HMO HPV ⊢
  rw [← hal] at HTX
  obtain ⟨q, hq⟩ : ∃ q, q = w.heap.size := ⟨_, rfl⟩
  obtain ⟨w1, hw1⟩ : ∃ w1, w1 = w.alloc (.cells #[.string name, .slice aa al ac, .int .i64 kind, .int .i64 temp, .bool mono, .int .i64 start, .int .i64 time, .int .i64 whole, .int .u64 re, .int .u64 im, .int .i64 sc, .int .u64 (ze : Int), .int .i64 po, .slice pa m pc, .int .i64 no, .slice na n nc, .int .i64 flags] 30) := ⟨_, rfl⟩
  have hb : w1.heap[q]? = some (.cells #[.string name, .slice aa al ac, .int .i64 kind, .int .i64 temp, .bool mono, .int .i64 start, .int .i64 time, .int .i64 whole, .int .u64 re, .int .u64 im, .int .i64 sc, .int .u64 (ze : Int), .int .i64 po, .slice pa m pc, .int .i64 no, .slice na n nc, .int .i64 flags] 30 (0, 0)) := by rw [hw1, hq]; exact heap_alloc_new w _
  have HBB : Hid (∀ w', Kept (fun _ => False) w1 w' → w'.heap[q]? = some (.cells #[.string name, .slice aa al ac, .int .i64 kind, .int .i64 temp, .bool mono, .int .i64 start, .int .i64 time, .int .i64 whole, .int .u64 re, .int .u64 im, .int .i64 sc, .int .u64 (ze : Int), .int .i64 po, .slice pa m pc, .int .i64 no, .slice na n nc, .int .i64 flags] 30 (0, 0))) := Lib.hid (fun w' k => k.same hb (fun x => x))
  have HK1 : Hid (Kept (fun _ => False) w w1) := Lib.hid (by rw [hw1]; exact (Kept.refl _ _).alloc _)
  have HW1 := Lib.hid (And.intro hw1 hq)
  have HB1 := Lib.hid (HBB.out w1 (Kept.refl _ _))
  clear hb hw1 hq hal hm hn
  go_enter Tryz.func7, Tryz.ntmps7
  go_upto_region 1 with fail
  rw [← HW1.out.1, ← HW1.out.2]
  go_wp2_with (first
    | (refine wpList_load_row rfl 30 (.tmp 1) rfl q rfl 30 _ (0, 0) _ HB1.out Tryz.underlying30 rfl point_info ?_)
    | fail)
  refine (HCH.out w1 HK1.out).mono ?_
  rintro e w2 ⟨rfl, k2⟩
  have HK2 := Lib.hid k2
  clear k2
  by_cases hc : CK = 0
  · subst hc
    have HK02 := Lib.hid (HK1.out.trans HK2.out)
    have HRA := Lib.hid (HRG.out rfl)
    clear HRG
    go_wp2_with fail
    refine (wkNew_any w2).mono ?_
    rintro e w3 ⟨p, rfl, h3⟩
    have HW3 := Lib.hid h3
    have c0 := cell_rowZ 0 _ (HBB.out w3 (HK2.out.trans h3.old)) rfl
    have c1 := cell_rowZ 1 _ (HBB.out w3 (HK2.out.trans h3.old)) rfl
    clear h3
    go_wp2_with fail
    refine (HTX.out w3 (HK02.out.trans HW3.out.old)).mono ?_
    rintro e w4 ⟨rfl, k4⟩
    have HW4 := Lib.hid (HW3.out.kept k4)
    clear c0 c1 k4
    go_wp2_with fail
    refine (wkText_any tt HW4.out (by have := HTS.out; omega) (by simp)).mono ?_
    rintro e w6 ⟨rfl, h6⟩
    rw [List.nil_append] at h6
    obtain ⟨B, hB⟩ : ∃ B, B = numB tt.size ++ strB tt := ⟨_, rfl⟩
    rw [← hB] at h6 HPB
    have HBL : Hid (B.length ≤ 50000) := Lib.hid (by rw [hB, List.length_append]; have := numB_len tt.size; have : (strB tt).length = tt.size := strB_length tt; have := HTS.out; omega)
    have HW6 := Lib.hid h6
    have HSS : Hid (∀ w', Kept (fun _ => False) w6 w' → (fun w' => w'.heap[q]? = some (.cells #[.string name, .slice aa al ac, .int .i64 kind, .int .i64 temp, .bool mono, .int .i64 start, .int .i64 time, .int .i64 whole, .int .u64 re, .int .u64 im, .int .i64 sc, .int .u64 (ze : Int), .int .i64 po, .slice pa m pc, .int .i64 no, .slice na n nc, .int .i64 flags] 30 (0, 0)) ∧ w'.cell? ⟨q, 2, none⟩ = some (.int .i64 kind) ∧ w'.cell? ⟨q, 3, none⟩ = some (.int .i64 temp) ∧ w'.cell? ⟨q, 5, none⟩ = some (.int .i64 start) ∧ w'.cell? ⟨q, 6, none⟩ = some (.int .i64 time) ∧ w'.cell? ⟨q, 16, none⟩ = some (.int .i64 flags)) w') := Lib.hid (fun w' k => by
      have b := HBB.out w' (HK2.out.trans (HW6.out.old.trans k))
      exact ⟨b, cell_rowZ 2 _ b rfl, cell_rowZ 3 _ b rfl, cell_rowZ 5 _ b rfl, cell_rowZ 6 _ b rfl, cell_rowZ 16 _ b rfl⟩)
    have HS7 := Lib.hid (HSS.out w6.drew ((Kept.refl _ _).drew))
    have wd : IntKind.i64.wrap (time - start) = time - start := by have := HRA.out; rw [IntWalk.i64_in _ ⟨by omega, by omega⟩]
    clear h6 hB
    go_upto_region 7 with fail
    refine AnyBut.start (S := fun w' => w'.heap[q]? = some (.cells #[.string name, .slice aa al ac, .int .i64 kind, .int .i64 temp, .bool mono, .int .i64 start, .int .i64 time, .int .i64 whole, .int .u64 re, .int .u64 im, .int .i64 sc, .int .u64 (ze : Int), .int .i64 po, .slice pa m pc, .int .i64 no, .slice na n nc, .int .i64 flags] 30 (0, 0)) ∧ w'.cell? ⟨q, 2, none⟩ = some (.int .i64 kind) ∧ w'.cell? ⟨q, 3, none⟩ = some (.int .i64 temp) ∧ w'.cell? ⟨q, 5, none⟩ = some (.int .i64 start) ∧ w'.cell? ⟨q, 6, none⟩ = some (.int .i64 time) ∧ w'.cell? ⟨q, 16, none⟩ = some (.int .i64 flags)) (k := 17) (by kernel_rfl) ?_
    refine AnyBut.takeS (i := 0) (v := ?v1) rfl (by kernel_rfl) (Nat.le_of_eq (by kernel_rfl)) (by kernel_rfl) (by kernel_rfl) (fun _ _ _ h => h) (HS7.out) (Or.inl ⟨by kernel_rfl, ?hy1⟩) ?r1
    case hy1 =>
      intro w hSw
      try dsimp only at hSw
      go_simp
      first | (obtain ⟨yb, y2, y3, y5, y6, y16⟩ := hSw; clear yb; go_simp) | skip
      try with_reducible rfl
    try simp only [Act.put, List.getElem_toArray, List.getElem_cons_zero, List.setIfInBounds_toArray, List.set_cons_zero, List.set_cons_succ]
    refine AnyBut.takeS (i := 1) (v := ?v2) rfl (by kernel_rfl) (Nat.le_of_eq (by kernel_rfl)) (by kernel_rfl) (by kernel_rfl) (fun _ _ _ h => h) (HS7.out) (Or.inl ⟨by kernel_rfl, ?hy2⟩) ?r2
    case hy2 =>
      intro w hSw
      try dsimp only at hSw
      go_simp
      first | (obtain ⟨yb, y2, y3, y5, y6, y16⟩ := hSw; clear yb; go_simp) | skip
      try with_reducible rfl
    try simp only [Act.put, List.getElem_toArray, List.getElem_cons_succ, List.getElem_cons_zero, List.setIfInBounds_toArray, List.set_cons_zero, List.set_cons_succ]
    refine AnyBut.takeS (i := 2) (v := ?v3) rfl (by kernel_rfl) (Nat.le_of_eq (by kernel_rfl)) (by kernel_rfl) (by kernel_rfl) (fun _ _ _ h => h) (HS7.out) (Or.inl ⟨by kernel_rfl, ?hy3⟩) ?r3
    case hy3 =>
      intro w hSw
      try dsimp only at hSw
      go_simp
      first | (obtain ⟨yb, y2, y3, y5, y6, y16⟩ := hSw; clear yb; go_simp) | skip
      try with_reducible rfl
    try simp only [Act.put, List.getElem_toArray, List.getElem_cons_succ, List.getElem_cons_zero, List.setIfInBounds_toArray, List.set_cons_zero, List.set_cons_succ]
    refine AnyBut.takeS (i := 3) (v := ?v4) rfl (by kernel_rfl) (Nat.le_of_eq (by kernel_rfl)) (by kernel_rfl) (by kernel_rfl) (fun _ _ _ h => h) (HS7.out) (Or.inl ⟨by kernel_rfl, ?hy4⟩) ?r4
    case hy4 =>
      intro w hSw
      try dsimp only at hSw
      go_simp
      first | (obtain ⟨yb, y2, y3, y5, y6, y16⟩ := hSw; clear yb; go_simp) | skip
      try with_reducible rfl
    try simp only [Act.put, List.getElem_toArray, List.getElem_cons_succ, List.getElem_cons_zero, List.setIfInBounds_toArray, List.set_cons_zero, List.set_cons_succ]
    refine AnyBut.takeS (i := 4) (v := ?v5) rfl (by kernel_rfl) (Nat.le_of_eq (by kernel_rfl)) (by kernel_rfl) (by kernel_rfl) (fun _ _ _ h => h) (HS7.out) (Or.inl ⟨by kernel_rfl, ?hy5⟩) ?r5
    case hy5 =>
      intro w hSw
      try dsimp only at hSw
      refine exec_load_row 30 (.tmp 1) ?_ q ?_ 30 _ (0, 0) _ hSw.1 Tryz.underlying30 rfl point_info
      · rfl
      · rfl
    try simp only [Act.put, List.getElem_toArray, List.getElem_cons_succ, List.getElem_cons_zero, List.setIfInBounds_toArray, List.set_cons_zero, List.set_cons_succ]
    refine AnyBut.takeS (i := 6) (v := ?v6) rfl (by kernel_rfl) (Nat.le_of_eq (by kernel_rfl)) (by kernel_rfl) (by kernel_rfl) (fun _ _ _ h => h) (HS7.out) (Or.inl ⟨by kernel_rfl, ?hy6⟩) ?r6
    case hy6 =>
      intro w hSw
      try dsimp only at hSw
      go_simp
      first | (obtain ⟨yb, y2, y3, y5, y6, y16⟩ := hSw; clear yb; go_simp) | skip
      try with_reducible rfl
    try simp only [Act.put, List.getElem_toArray, List.getElem_cons_succ, List.getElem_cons_zero, List.setIfInBounds_toArray, List.set_cons_zero, List.set_cons_succ]
    refine AnyBut.takeS (i := 7) (v := ?v7) rfl (by kernel_rfl) (Nat.le_of_eq (by kernel_rfl)) (by kernel_rfl) (by kernel_rfl) (fun _ _ _ h => h) (HS7.out) (Or.inl ⟨by kernel_rfl, ?hy7⟩) ?r7
    case hy7 =>
      intro w hSw
      try dsimp only at hSw
      go_simp
      first | (obtain ⟨yb, y2, y3, y5, y6, y16⟩ := hSw; clear yb; go_simp) | skip
      try with_reducible rfl
    try simp only [Act.put, List.getElem_toArray, List.getElem_cons_succ, List.getElem_cons_zero, List.setIfInBounds_toArray, List.set_cons_zero, List.set_cons_succ]
    refine AnyBut.takeS (i := 8) (v := ?v8) rfl (by kernel_rfl) (Nat.le_of_eq (by kernel_rfl)) (by kernel_rfl) (by kernel_rfl) (fun _ _ _ h => h) (HS7.out) (Or.inl ⟨by kernel_rfl, ?hy8⟩) ?r8
    case hy8 =>
      intro w hSw
      try dsimp only at hSw
      go_simp
      first | (obtain ⟨yb, y2, y3, y5, y6, y16⟩ := hSw; clear yb; go_simp) | skip
      try with_reducible rfl
    try simp only [Act.put, List.getElem_toArray, List.getElem_cons_succ, List.getElem_cons_zero, List.setIfInBounds_toArray, List.set_cons_zero, List.set_cons_succ]
    refine AnyBut.takeS (i := 9) (v := ?v9) rfl (by kernel_rfl) (Nat.le_of_eq (by kernel_rfl)) (by kernel_rfl) (by kernel_rfl) (fun _ _ _ h => h) (HS7.out) (Or.inl ⟨by kernel_rfl, ?hy9⟩) ?r9
    case hy9 =>
      intro w hSw
      try dsimp only at hSw
      go_simp
      first | (obtain ⟨yb, y2, y3, y5, y6, y16⟩ := hSw; clear yb; go_simp) | skip
      try with_reducible rfl
    try simp only [Act.put, List.getElem_toArray, List.getElem_cons_succ, List.getElem_cons_zero, List.setIfInBounds_toArray, List.set_cons_zero, List.set_cons_succ]
    refine AnyBut.takeS (i := 10) (v := ?v10) rfl (by kernel_rfl) (Nat.le_of_eq (by kernel_rfl)) (by kernel_rfl) (by kernel_rfl) (fun _ _ _ h => h) (HS7.out) (Or.inl ⟨by kernel_rfl, ?hy10⟩) ?r10
    case hy10 =>
      intro w hSw
      try dsimp only at hSw
      go_simp
      first | (obtain ⟨yb, y2, y3, y5, y6, y16⟩ := hSw; clear yb; go_simp) | skip
      try with_reducible rfl
    try simp only [Act.put, List.getElem_toArray, List.getElem_cons_succ, List.getElem_cons_zero, List.setIfInBounds_toArray, List.set_cons_zero, List.set_cons_succ]
    refine AnyBut.takeS (i := 11) (v := ?v11) rfl (by kernel_rfl) (Nat.le_of_eq (by kernel_rfl)) (by kernel_rfl) (by kernel_rfl) (fun _ _ _ h => h) (HS7.out) (Or.inl ⟨by kernel_rfl, ?hy11⟩) ?r11
    case hy11 =>
      intro w hSw
      try dsimp only at hSw
      go_simp
      first | (obtain ⟨yb, y2, y3, y5, y6, y16⟩ := hSw; clear yb; go_simp) | skip
      try with_reducible rfl
    try simp only [Act.put, List.getElem_toArray, List.getElem_cons_succ, List.getElem_cons_zero, List.setIfInBounds_toArray, List.set_cons_zero, List.set_cons_succ]
    refine AnyBut.takeS (i := 12) (v := ?v12) rfl (by kernel_rfl) (Nat.le_of_eq (by kernel_rfl)) (by kernel_rfl) (by kernel_rfl) (fun _ _ _ h => h) (HS7.out) (Or.inl ⟨by kernel_rfl, ?hy12⟩) ?r12
    case hy12 =>
      intro w hSw
      try dsimp only at hSw
      go_simp
      first | (obtain ⟨yb, y2, y3, y5, y6, y16⟩ := hSw; clear yb; go_simp) | skip
      try with_reducible rfl
    try simp only [Act.put, List.getElem_toArray, List.getElem_cons_succ, List.getElem_cons_zero, List.setIfInBounds_toArray, List.set_cons_zero, List.set_cons_succ]
    refine AnyBut.takeS (i := 13) (v := ?v13) rfl (by kernel_rfl) (Nat.le_of_eq (by kernel_rfl)) (by kernel_rfl) (by kernel_rfl) (fun _ _ _ h => h) (HS7.out) (Or.inl ⟨by kernel_rfl, ?hy13⟩) ?r13
    case hy13 =>
      intro w hSw
      try dsimp only at hSw
      go_simp
      first | (obtain ⟨yb, y2, y3, y5, y6, y16⟩ := hSw; clear yb; go_simp) | skip
      try with_reducible rfl
    try simp only [Act.put, List.getElem_toArray, List.getElem_cons_succ, List.getElem_cons_zero, List.setIfInBounds_toArray, List.set_cons_zero, List.set_cons_succ]
    refine AnyBut.takeS (i := 14) (v := ?v14) rfl (by kernel_rfl) (Nat.le_of_eq (by kernel_rfl)) (by kernel_rfl) (by kernel_rfl) (fun _ _ _ h => h) (HS7.out) (Or.inl ⟨by kernel_rfl, ?hy14⟩) ?r14
    case hy14 =>
      intro w hSw
      try dsimp only at hSw
      go_simp
      first | (obtain ⟨yb, y2, y3, y5, y6, y16⟩ := hSw; clear yb; go_simp) | skip
      try with_reducible rfl
    try simp only [Act.put, List.getElem_toArray, List.getElem_cons_succ, List.getElem_cons_zero, List.setIfInBounds_toArray, List.set_cons_zero, List.set_cons_succ]
    refine AnyBut.takeS (i := 16) (v := ?v15) rfl (by kernel_rfl) (Nat.le_of_eq (by kernel_rfl)) (by kernel_rfl) (by kernel_rfl) (fun _ _ _ h => h) (HS7.out) (Or.inl ⟨by kernel_rfl, ?hy15⟩) ?r15
    case hy15 =>
      intro w hSw
      try dsimp only at hSw
      go_simp
      first | (obtain ⟨yb, y2, y3, y5, y6, y16⟩ := hSw; clear yb; go_simp) | skip
      try with_reducible rfl
    try simp only [Act.put, List.getElem_toArray, List.getElem_cons_succ, List.getElem_cons_zero, List.setIfInBounds_toArray, List.set_cons_zero, List.set_cons_succ]
    refine AnyBut.one (i := 5) (by kernel_rfl) rfl (fun K hK => ?_)
    go_simp
    go_wp2_with fail
    refine (HMO.out _).mono ?_
    rintro e w8 ⟨rfl, k8⟩
    have HK8 := Lib.hid ((Kept.refl (fun _ => False) w6).drew.trans k8)
    have HS8 := Lib.hid (HSS.out w8 HK8.out)
    clear k8
    go_wp2
    refine hK.out _ _ (HS8.out) ?_
    clear hK K
    try simp only [Act.put, List.getElem_toArray, List.getElem_cons_succ, List.getElem_cons_zero, List.setIfInBounds_toArray, List.set_cons_zero, List.set_cons_succ]
    refine AnyBut.takeS (i := 15) (v := ?v16) rfl (by kernel_rfl) (Nat.le_of_eq (by kernel_rfl)) (by kernel_rfl) (by kernel_rfl) (fun _ _ _ h => h) (HS8.out) (Or.inl ⟨by kernel_rfl, ?hy16⟩) ?r16
    case hy16 =>
      intro w hSw
      try dsimp only at hSw
      go_simp
      first | (obtain ⟨yb, y2, y3, y5, y6, y16⟩ := hSw; clear yb; go_simp) | skip
      try with_reducible rfl
    try simp only [Act.put, List.getElem_toArray, List.getElem_cons_succ, List.getElem_cons_zero, List.setIfInBounds_toArray, List.set_cons_zero, List.set_cons_succ]
    refine AnyBut.done (by kernel_rfl) ?_
    have HW8 := Lib.hid (HW6.out.kept HK8.out)
    clear wd
    go_wp2
    go_loopg [43] 6 (fun g s43 wr => ∃ i : Nat, i ≤ 6 ∧ g = 6 - i ∧ s43 = .int .i64 (i : Int) ∧ WK w2 wr p (B ++ numsI ([kind, temp, mi, flags, start, time - start].take i)))
    case atStart => exact ⟨0, by omega, rfl, rfl, by rw [List.take_zero]; unfold numsI; rw [List.flatMap_nil, List.append_nil]; exact HW8.out⟩
    case round =>
      obtain ⟨i, hin, rfl, rfl, hm⟩ := hrel
      have HM := Lib.hid hm
      have HLN : Hid ((B ++ numsI ([kind, temp, mi, flags, start, time - start].take i)).length ≤ 60000) := Lib.hid (by
        rw [List.length_append]
        have h1 := numsI_len ([kind, temp, mi, flags, start, time - start].take i)
        rw [List.length_take] at h1
        have := HBL.out
        omega)
      clear hm
      rcases (show i = 0 ∨ i = 1 ∨ i = 2 ∨ i = 3 ∨ i = 4 ∨ i = 5 ∨ i = 6 by omega) with rfl | rfl | rfl | rfl | rfl | rfl | rfl
      · have wu : IntKind.u64.wrap kind = kind := by have := HRA.out; have := HMI.out; exact wrap_u64_of _ (by omega) (by omega)
        have HCN := Lib.hid (wkNum_any kind HM.out (by have := HRA.out; have := HMI.out; omega) (by have := HRA.out; have := HMI.out; omega) (by have := HLN.out; omega))
        have hix := fun w' => ix6_0 kind temp mi flags start (time - start) w'
        clear hin
        go_wp2_with fail
        refine HCN.out.mono ?_
        rintro e w9 ⟨rfl, h9⟩
        have hE : B ++ numsI ([kind, temp, mi, flags, start, time - start].take 0) ++ numB kind = B ++ numsI ([kind, temp, mi, flags, start, time - start].take 1) := by unfold numsI; simp
        rw [hE] at h9
        have HM9 := Lib.hid h9
        clear h9 hE wu hix
        go_wp2
        go_roundg 5
        case measure => omega
        case rel => exact ⟨1, by omega, rfl, rfl, HM9.out⟩
      · have wu : IntKind.u64.wrap temp = temp := by have := HRA.out; have := HMI.out; exact wrap_u64_of _ (by omega) (by omega)
        have HCN := Lib.hid (wkNum_any temp HM.out (by have := HRA.out; have := HMI.out; omega) (by have := HRA.out; have := HMI.out; omega) (by have := HLN.out; omega))
        have hix := fun w' => ix6_1 kind temp mi flags start (time - start) w'
        clear hin
        go_wp2_with fail
        refine HCN.out.mono ?_
        rintro e w9 ⟨rfl, h9⟩
        have hE : B ++ numsI ([kind, temp, mi, flags, start, time - start].take 1) ++ numB temp = B ++ numsI ([kind, temp, mi, flags, start, time - start].take 2) := by unfold numsI; simp
        rw [hE] at h9
        have HM9 := Lib.hid h9
        clear h9 hE wu hix
        go_wp2
        go_roundg 4
        case measure => omega
        case rel => exact ⟨2, by omega, rfl, rfl, HM9.out⟩
      · have wu : IntKind.u64.wrap mi = mi := by have := HRA.out; have := HMI.out; exact wrap_u64_of _ (by omega) (by omega)
        have HCN := Lib.hid (wkNum_any mi HM.out (by have := HRA.out; have := HMI.out; omega) (by have := HRA.out; have := HMI.out; omega) (by have := HLN.out; omega))
        have hix := fun w' => ix6_2 kind temp mi flags start (time - start) w'
        clear hin
        go_wp2_with fail
        refine HCN.out.mono ?_
        rintro e w9 ⟨rfl, h9⟩
        have hE : B ++ numsI ([kind, temp, mi, flags, start, time - start].take 2) ++ numB mi = B ++ numsI ([kind, temp, mi, flags, start, time - start].take 3) := by unfold numsI; simp
        rw [hE] at h9
        have HM9 := Lib.hid h9
        clear h9 hE wu hix
        go_wp2
        go_roundg 3
        case measure => omega
        case rel => exact ⟨3, by omega, rfl, rfl, HM9.out⟩
      · have wu : IntKind.u64.wrap flags = flags := by have := HRA.out; have := HMI.out; exact wrap_u64_of _ (by omega) (by omega)
        have HCN := Lib.hid (wkNum_any flags HM.out (by have := HRA.out; have := HMI.out; omega) (by have := HRA.out; have := HMI.out; omega) (by have := HLN.out; omega))
        have hix := fun w' => ix6_3 kind temp mi flags start (time - start) w'
        clear hin
        go_wp2_with fail
        refine HCN.out.mono ?_
        rintro e w9 ⟨rfl, h9⟩
        have hE : B ++ numsI ([kind, temp, mi, flags, start, time - start].take 3) ++ numB flags = B ++ numsI ([kind, temp, mi, flags, start, time - start].take 4) := by unfold numsI; simp
        rw [hE] at h9
        have HM9 := Lib.hid h9
        clear h9 hE wu hix
        go_wp2
        go_roundg 2
        case measure => omega
        case rel => exact ⟨4, by omega, rfl, rfl, HM9.out⟩
      · have wu : IntKind.u64.wrap start = start := by have := HRA.out; have := HMI.out; exact wrap_u64_of _ (by omega) (by omega)
        have HCN := Lib.hid (wkNum_any start HM.out (by have := HRA.out; have := HMI.out; omega) (by have := HRA.out; have := HMI.out; omega) (by have := HLN.out; omega))
        have hix := fun w' => ix6_4 kind temp mi flags start (time - start) w'
        clear hin
        go_wp2_with fail
        refine HCN.out.mono ?_
        rintro e w9 ⟨rfl, h9⟩
        have hE : B ++ numsI ([kind, temp, mi, flags, start, time - start].take 4) ++ numB start = B ++ numsI ([kind, temp, mi, flags, start, time - start].take 5) := by unfold numsI; simp
        rw [hE] at h9
        have HM9 := Lib.hid h9
        clear h9 hE wu hix
        go_wp2
        go_roundg 1
        case measure => omega
        case rel => exact ⟨5, by omega, rfl, rfl, HM9.out⟩
      · have wu : IntKind.u64.wrap (time - start) = (time - start) := by have := HRA.out; have := HMI.out; exact wrap_u64_of _ (by omega) (by omega)
        have HCN := Lib.hid (wkNum_any (time - start) HM.out (by have := HRA.out; have := HMI.out; omega) (by have := HRA.out; have := HMI.out; omega) (by have := HLN.out; omega))
        have hix := fun w' => ix6_5 kind temp mi flags start (time - start) w'
        clear hin
        go_wp2_with fail
        refine HCN.out.mono ?_
        rintro e w9 ⟨rfl, h9⟩
        have hE : B ++ numsI ([kind, temp, mi, flags, start, time - start].take 5) ++ numB (time - start) = B ++ numsI ([kind, temp, mi, flags, start, time - start].take 6) := by unfold numsI; simp
        rw [hE] at h9
        have HM9 := Lib.hid h9
        clear h9 hE wu hix
        go_wp2
        go_roundg 0
        case measure => omega
        case rel => exact ⟨6, by omega, rfl, rfl, HM9.out⟩
      · have HB9 := Lib.hid (HBB.out wr (HK2.out.trans HM.out.old))
        clear hin
        go_wp2_with (first
          | (refine wpList_load_row rfl 30 (.tmp 1) rfl q rfl 30 _ (0, 0) _ HB9.out Tryz.underlying30 rfl point_info ?_)
          | fail)
        refine (HPV.out w2 wr p _ HK02.out HM.out (by have := HLN.out; omega)).mono ?_
        rintro e w9 ⟨rfl, h9, _⟩
        have hE : B ++ numsI ([kind, temp, mi, flags, start, time - start].take 6) ++ BV = PB := HPB.out.symm
        rw [hE] at h9
        have hpl : PB.length ≤ 100000 := by rw [← hE, List.length_append]; have := HLN.out; have := HTS.out; omega
        have HCB := Lib.hid (wkBytes_any h9 (by omega))
        clear h9 hE hpl
        go_wp2_with fail
        refine HCB.out.mono ?_
        rintro e w10 ⟨v, rfl, ho, k10⟩
        have HO := Lib.hid (And.intro (wown_base ho HK02.out.size) (HK02.out.trans k10))
        clear ho k10
        go_wp2
        exact HQY.out _ _ (by trivial) HO.out.1 HO.out.2
  · have q1 : ((CK : Int) != 0) = true := bneT (by omega)
    have q1' : (CK != 0) = true := by simp [hc]
    have HF := Lib.hid (HQN.out w2 hc (HK1.out.trans HK2.out))
    clear hc
    go_wp2
    exact HF.out
end Go.Proofs.YteflepcmblacaaaGreatDoor
