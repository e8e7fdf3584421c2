/- Layer 12: a point's key (written by tools/gen_XI15.py). -/
import Derived.Test.YteflepcmblacaaaGreatDoorI7
namespace Go.Proofs.YteflepcmblacaaaGreatDoor
open Go.RowKit
attribute [local go_sem ↓] Go.wp_at_zero Go.wp_at_succ

/-- What tells a point's series. -/
def keyT (x : Pnt) : ByteArray := txt x ++ strOfNums [32, 48 + x.kind, 48 + x.temp, 48 + monoI x.mono]
/-- What Key answers. -/
def KeyTo (x : Pnt) (w : World) (e : Ending) (w' : World) : Prop :=
  (chk x ≠ 0 ∧ e = .returned (.tuple #[.string ByteArray.empty, .int .i64 ((chk x : Nat) : Int)]) ∧ Kept (fun _ => False) w w') ∨
  (chk x = 0 ∧ e = .returned (.tuple #[.string (keyT x), .int .i64 0]) ∧ Kept (fun _ => False) w w')
set_option maxRecDepth 100000 in
set_option maxHeartbeats 16000000 in
theorem pKey_any (x : Pnt) (aa pa na : Option Addr) (ac pc nc : Nat) (w : World) (ha : PntAt w x aa ac (.slice pa x.h.pl.length pc) (.slice na x.h.nl.length nc)) (hok : x.ok) (hli : x.light) :
    Calls Tryz.prog 13 #[pntV x (.slice aa x.L.length ac) (.slice pa x.h.pl.length pc) (.slice na x.h.nl.length nc)] w (KeyTo x w) := by
  have HCH := Lib.hid (fun w' (k : Kept (fun _ => False) w w') => pCheck_any x aa pa na ac pc nc w' (ha.on k) hok hli)
  have HTX := Lib.hid (fun w' (k : Kept (fun _ => False) w w') => ltext_any x.name aa ac x.L w' (ha.ps.kept k) ha.cap (by have := hli.len; omega) hli.name hli.sh)
  have HMO := Lib.hid (fun w' => monoOf_any x (.slice aa x.L.length ac) (.slice pa x.h.pl.length pc) (.slice na x.h.nl.length nc) w')
  obtain ⟨Q, hQ⟩ : ∃ Q, Q = KeyTo x w := ⟨_, rfl⟩
  have HQN : Hid (∀ w', chk x ≠ 0 → Kept (fun _ => False) w w' → Q (.returned (.tuple #[.string ByteArray.empty, .int .i64 ((chk x : Nat) : Int)])) w') := Lib.hid (fun w' h k => by rw [hQ]; exact .inl ⟨h, rfl, k⟩)
  have HQY : Hid (∀ w', chk x = 0 → Kept (fun _ => False) w w' → Q (.returned (.tuple #[.string (keyT x), .int .i64 0])) w') := Lib.hid (fun w' h k => by rw [hQ]; exact .inr ⟨h, rfl, k⟩)
  rw [← hQ]
  have HRT := Lib.hid (fun (h : chk x = 0) => right_of h)
  have HTS := Lib.hid (txt_size hli)
  obtain ⟨tt, htt⟩ : ∃ t, t = txt x := ⟨_, rfl⟩
  have htt' : (textT x.name x.L).1 = tt := htt.symm
  obtain ⟨te, hte⟩ : ∃ t, t = (textT x.name x.L).2 := ⟨_, rfl⟩
  rw [htt', ← hte] at HTX
  obtain ⟨CK, hCK⟩ : ∃ c, c = chk x := ⟨_, rfl⟩
  rw [← hCK] at HCH HQN HQY HRT
  rw [← htt] at HTS
  obtain ⟨KT, hKT⟩ : ∃ b, b = keyT x := ⟨_, rfl⟩
  have HKT : Hid (KT = tt ++ strOfNums [32, 48 + x.kind, 48 + x.temp, 48 + monoI x.mono]) := Lib.hid (by rw [hKT, htt]; rfl)
  rw [← hKT] at HQY
  have HRG : Hid (CK = 0 → ((1 ≤ x.kind ∧ x.kind ≤ 5) ∧ (0 ≤ x.temp ∧ x.temp ≤ 2)) ∧ (0 ≤ x.start ∧ x.start ≤ x.time ∧ x.time ≤ 4503599627370496) ∧ (0 ≤ x.flags ∧ x.flags ≤ 31)) := Lib.hid (fun h => ⟨(HRT.out h).kinds, (HRT.out h).time, (HRT.out h).flags⟩)
  have HMI : Hid (0 ≤ monoI x.mono ∧ monoI x.mono ≤ 1) := Lib.hid (by unfold monoI; split <;> omega)
  obtain ⟨mi, hmi⟩ : ∃ m, m = monoI x.mono := ⟨_, rfl⟩
  rw [← hmi] at HMO HMI HKT
  clear ha hok hli hQ HRT htt htt' hte hCK hKT hmi
  unfold pntV pntC at HCH HMO ⊢
  obtain ⟨name, L, kind, temp, mono, start, time, whole, re, im, ⟨sc, ze, po, pl, no, nl⟩, flags⟩ := x
  dsimp only at HCH HTX HMO HKT HRG ⊢
  obtain ⟨al, hal⟩ : ∃ m, m = L.length := ⟨_, rfl⟩
  obtain ⟨m, hm⟩ : ∃ m, m = pl.length := ⟨_, rfl⟩
  obtain ⟨n, hn⟩ : ∃ n, n = nl.length := ⟨_, rfl⟩
  rw [← hm, ← hn, ← hal] at HCH HMO ⊢
  rw [← hal] at HTX
  obtain ⟨q, hq⟩ : ∃ q, q = w.heap.size := ⟨_, rfl⟩
  obtain ⟨w1, hw1⟩ : ∃ w1, w1 = w.alloc (.cells #[.string name, .slice aa al ac, .int .i64 kind, .int .i64 temp, .bool mono, .int .i64 start, .int .i64 time, .int .i64 whole, .int .u64 re, .int .u64 im, .int .i64 sc, .int .u64 (ze : Int), .int .i64 po, .slice pa m pc, .int .i64 no, .slice na n nc, .int .i64 flags] 30) := ⟨_, rfl⟩
  have hb : w1.heap[q]? = some (.cells #[.string name, .slice aa al ac, .int .i64 kind, .int .i64 temp, .bool mono, .int .i64 start, .int .i64 time, .int .i64 whole, .int .u64 re, .int .u64 im, .int .i64 sc, .int .u64 (ze : Int), .int .i64 po, .slice pa m pc, .int .i64 no, .slice na n nc, .int .i64 flags] 30 (0, 0)) := by rw [hw1, hq]; exact heap_alloc_new w _
  have HBB : Hid (∀ w', Kept (fun _ => False) w1 w' → w'.heap[q]? = some (.cells #[.string name, .slice aa al ac, .int .i64 kind, .int .i64 temp, .bool mono, .int .i64 start, .int .i64 time, .int .i64 whole, .int .u64 re, .int .u64 im, .int .i64 sc, .int .u64 (ze : Int), .int .i64 po, .slice pa m pc, .int .i64 no, .slice na n nc, .int .i64 flags] 30 (0, 0))) := Lib.hid (fun w' k => k.same hb (fun x => x))
  have HK1 : Hid (Kept (fun _ => False) w w1) := Lib.hid (by rw [hw1]; exact (Kept.refl _ _).alloc _)
  have HW1 := Lib.hid (And.intro hw1 hq)
  have HB1 := Lib.hid (HBB.out w1 (Kept.refl _ _))
  clear hb hw1 hq hal hm hn
  go_enter Tryz.func13, Tryz.ntmps13
  go_upto_region 1 with fail
  rw [← HW1.out.1, ← HW1.out.2]
  go_wp2_with (first
    | (refine wpList_load_row rfl 30 (.tmp 1) rfl q rfl 30 _ (0, 0) _ HB1.out Tryz.underlying30 rfl point_info ?_)
    | fail)
  refine (HCH.out w1 HK1.out).mono ?_
  rintro e w2 ⟨rfl, k2⟩
  have HK2 := Lib.hid k2
  clear k2
  by_cases hc : CK = 0
  · subst hc
    have HK02 := Lib.hid (HK1.out.trans HK2.out)
    have HRA := Lib.hid (HRG.out rfl)
    clear HRG
    have c0 := cell_rowZ 0 _ (HBB.out w2 HK2.out) rfl
    have c1 := cell_rowZ 1 _ (HBB.out w2 HK2.out) rfl
    go_wp2_with fail
    refine (HTX.out w2 HK02.out).mono ?_
    rintro e w4 ⟨rfl, k4⟩
    have HK4 := Lib.hid (HK2.out.trans k4)
    have HSS : Hid (∀ w', Kept (fun _ => False) w4 w' → (fun w' => w'.heap[q]? = some (.cells #[.string name, .slice aa al ac, .int .i64 kind, .int .i64 temp, .bool mono, .int .i64 start, .int .i64 time, .int .i64 whole, .int .u64 re, .int .u64 im, .int .i64 sc, .int .u64 (ze : Int), .int .i64 po, .slice pa m pc, .int .i64 no, .slice na n nc, .int .i64 flags] 30 (0, 0)) ∧ w'.cell? ⟨q, 2, none⟩ = some (.int .i64 kind) ∧ w'.cell? ⟨q, 3, none⟩ = some (.int .i64 temp)) w') := Lib.hid (fun w' k => by
      have b := HBB.out w' (HK4.out.trans k)
      exact ⟨b, cell_rowZ 2 _ b rfl, cell_rowZ 3 _ b rfl⟩)
    have HS5 := Lib.hid (HSS.out w4.drew ((Kept.refl _ _).drew))
    have uk : IntKind.u8.wrap kind = kind := by have := HRA.out; rw [IntKind.wrap_u8]; omega
    have ut : IntKind.u8.wrap temp = temp := by have := HRA.out; rw [IntKind.wrap_u8]; omega
    have um : IntKind.u8.wrap mi = mi := by have := HMI.out; rw [IntKind.wrap_u8]; omega
    have ak : IntKind.u8.wrap (48 + kind) = 48 + kind := by have := HRA.out; rw [IntKind.wrap_u8]; omega
    have at' : IntKind.u8.wrap (48 + temp) = 48 + temp := by have := HRA.out; rw [IntKind.wrap_u8]; omega
    have am : IntKind.u8.wrap (48 + mi) = 48 + mi := by have := HMI.out; rw [IntKind.wrap_u8]; omega
    clear c0 c1 k4
    obtain ⟨DS, hDS⟩ : ∃ DS, DS = strOfNums [32, 48 + kind, 48 + temp, 48 + mi] := ⟨_, rfl⟩
    have HDS : Hid (DS = strOfNums [32, 48 + kind, 48 + temp, 48 + mi] ∧ tt ++ DS = KT ∧ tt.size + DS.size ≤ 9223372036854775807) := Lib.hid ⟨hDS, by rw [HKT.out, hDS], by have := HTS.out; rw [hDS, strOf_size]; simp; omega⟩
    clear hDS
    go_upto_region 5 with fail
    refine AnyBut.start (S := fun w' => w'.heap[q]? = some (.cells #[.string name, .slice aa al ac, .int .i64 kind, .int .i64 temp, .bool mono, .int .i64 start, .int .i64 time, .int .i64 whole, .int .u64 re, .int .u64 im, .int .i64 sc, .int .u64 (ze : Int), .int .i64 po, .slice pa m pc, .int .i64 no, .slice na n nc, .int .i64 flags] 30 (0, 0)) ∧ w'.cell? ⟨q, 2, none⟩ = some (.int .i64 kind) ∧ w'.cell? ⟨q, 3, none⟩ = some (.int .i64 temp)) (k := 14) (by kernel_rfl) ?_
    refine AnyBut.takeS (i := 0) (v := ?v1) rfl (by kernel_rfl) (Nat.le_of_eq (by kernel_rfl)) (by kernel_rfl) (by kernel_rfl) (fun _ _ _ h => h) (HS5.out) (Or.inl ⟨by kernel_rfl, ?hy1⟩) ?r1
    case hy1 =>
      intro w hSw
      try dsimp only at hSw
      go_simp
      first | (obtain ⟨yb, y0, y1⟩ := hSw; clear yb; go_simp) | skip
      try with_reducible rfl
    try simp only [Act.put, List.getElem_toArray, List.getElem_cons_zero, List.setIfInBounds_toArray, List.set_cons_zero, List.set_cons_succ]
    refine AnyBut.takeS (i := 1) (v := ?v2) rfl (by kernel_rfl) (Nat.le_of_eq (by kernel_rfl)) (by kernel_rfl) (by kernel_rfl) (fun _ _ _ h => h) (HS5.out) (Or.inl ⟨by kernel_rfl, ?hy2⟩) ?r2
    case hy2 =>
      intro w hSw
      try dsimp only at hSw
      go_simp
      first | (obtain ⟨yb, y0, y1⟩ := hSw; clear yb; go_simp) | skip
      try with_reducible rfl
    try simp only [Act.put, List.getElem_toArray, List.getElem_cons_succ, List.getElem_cons_zero, List.setIfInBounds_toArray, List.set_cons_zero, List.set_cons_succ]
    refine AnyBut.takeS (i := 2) (v := ?v3) rfl (by kernel_rfl) (Nat.le_of_eq (by kernel_rfl)) (by kernel_rfl) (by kernel_rfl) (fun _ _ _ h => h) (HS5.out) (Or.inl ⟨by kernel_rfl, ?hy3⟩) ?r3
    case hy3 =>
      intro w hSw
      try dsimp only at hSw
      go_simp
      first | (obtain ⟨yb, y0, y1⟩ := hSw; clear yb; go_simp) | skip
      try with_reducible rfl
    try simp only [Act.put, List.getElem_toArray, List.getElem_cons_succ, List.getElem_cons_zero, List.setIfInBounds_toArray, List.set_cons_zero, List.set_cons_succ]
    refine AnyBut.takeS (i := 3) (v := ?v4) rfl (by kernel_rfl) (Nat.le_of_eq (by kernel_rfl)) (by kernel_rfl) (by kernel_rfl) (fun _ _ _ h => h) (HS5.out) (Or.inl ⟨by kernel_rfl, ?hy4⟩) ?r4
    case hy4 =>
      intro w hSw
      try dsimp only at hSw
      go_simp
      first | (obtain ⟨yb, y0, y1⟩ := hSw; clear yb; go_simp) | skip
      try with_reducible rfl
    try simp only [Act.put, List.getElem_toArray, List.getElem_cons_succ, List.getElem_cons_zero, List.setIfInBounds_toArray, List.set_cons_zero, List.set_cons_succ]
    refine AnyBut.takeS (i := 4) (v := ?v5) rfl (by kernel_rfl) (Nat.le_of_eq (by kernel_rfl)) (by kernel_rfl) (by kernel_rfl) (fun _ _ _ h => h) (HS5.out) (Or.inl ⟨by kernel_rfl, ?hy5⟩) ?r5
    case hy5 =>
      intro w hSw
      try dsimp only at hSw
      go_simp
      first | (obtain ⟨yb, y0, y1⟩ := hSw; clear yb; go_simp) | skip
      try with_reducible rfl
    try simp only [Act.put, List.getElem_toArray, List.getElem_cons_succ, List.getElem_cons_zero, List.setIfInBounds_toArray, List.set_cons_zero, List.set_cons_succ]
    refine AnyBut.takeS (i := 5) (v := ?v6) rfl (by kernel_rfl) (Nat.le_of_eq (by kernel_rfl)) (by kernel_rfl) (by kernel_rfl) (fun _ _ _ h => h) (HS5.out) (Or.inl ⟨by kernel_rfl, ?hy6⟩) ?r6
    case hy6 =>
      intro w hSw
      try dsimp only at hSw
      go_simp
      first | (obtain ⟨yb, y0, y1⟩ := hSw; clear yb; go_simp) | skip
      try with_reducible rfl
    try simp only [Act.put, List.getElem_toArray, List.getElem_cons_succ, List.getElem_cons_zero, List.setIfInBounds_toArray, List.set_cons_zero, List.set_cons_succ]
    refine AnyBut.takeS (i := 6) (v := ?v7) rfl (by kernel_rfl) (Nat.le_of_eq (by kernel_rfl)) (by kernel_rfl) (by kernel_rfl) (fun _ _ _ h => h) (HS5.out) (Or.inl ⟨by kernel_rfl, ?hy7⟩) ?r7
    case hy7 =>
      intro w hSw
      try dsimp only at hSw
      go_simp
      first | (obtain ⟨yb, y0, y1⟩ := hSw; clear yb; go_simp) | skip
      try with_reducible rfl
    try simp only [Act.put, List.getElem_toArray, List.getElem_cons_succ, List.getElem_cons_zero, List.setIfInBounds_toArray, List.set_cons_zero, List.set_cons_succ]
    refine AnyBut.takeS (i := 7) (v := ?v8) rfl (by kernel_rfl) (Nat.le_of_eq (by kernel_rfl)) (by kernel_rfl) (by kernel_rfl) (fun _ _ _ h => h) (HS5.out) (Or.inl ⟨by kernel_rfl, ?hy8⟩) ?r8
    case hy8 =>
      intro w hSw
      try dsimp only at hSw
      go_simp
      first | (obtain ⟨yb, y0, y1⟩ := hSw; clear yb; go_simp) | skip
      try with_reducible rfl
    try simp only [Act.put, List.getElem_toArray, List.getElem_cons_succ, List.getElem_cons_zero, List.setIfInBounds_toArray, List.set_cons_zero, List.set_cons_succ]
    refine AnyBut.takeS (i := 8) (v := ?v9) rfl (by kernel_rfl) (Nat.le_of_eq (by kernel_rfl)) (by kernel_rfl) (by kernel_rfl) (fun _ _ _ h => h) (HS5.out) (Or.inl ⟨by kernel_rfl, ?hy9⟩) ?r9
    case hy9 =>
      intro w hSw
      try dsimp only at hSw
      refine exec_load_row 30 (.tmp 1) ?_ q ?_ 30 _ (0, 0) _ hSw.1 Tryz.underlying30 rfl point_info
      · rfl
      · rfl
    try simp only [Act.put, List.getElem_toArray, List.getElem_cons_succ, List.getElem_cons_zero, List.setIfInBounds_toArray, List.set_cons_zero, List.set_cons_succ]
    refine AnyBut.one (i := 9) (by kernel_rfl) rfl (fun K hK => ?_)
    go_simp
    go_wp2_with fail
    refine (HMO.out _).mono ?_
    rintro e w8 ⟨rfl, k8⟩
    have HK8 := Lib.hid ((Kept.refl (fun _ => False) w4).drew.trans k8)
    have HS8 := Lib.hid (HSS.out w8 HK8.out)
    clear k8
    go_wp2
    refine hK.out _ _ (HS8.out) ?_
    clear hK K
    try simp only [Act.put, List.getElem_toArray, List.getElem_cons_succ, List.getElem_cons_zero, List.setIfInBounds_toArray, List.set_cons_zero, List.set_cons_succ]
    refine AnyBut.takeS (i := 10) (v := ?v10) rfl (by kernel_rfl) (Nat.le_of_eq (by kernel_rfl)) (by kernel_rfl) (by kernel_rfl) (fun _ _ _ h => h) (HS8.out) (Or.inl ⟨by kernel_rfl, ?hy10⟩) ?r10
    case hy10 =>
      intro w hSw
      try dsimp only at hSw
      go_simp
      first | (obtain ⟨yb, y0, y1⟩ := hSw; clear yb; go_simp) | skip
      try with_reducible rfl
    try simp only [Act.put, List.getElem_toArray, List.getElem_cons_succ, List.getElem_cons_zero, List.setIfInBounds_toArray, List.set_cons_zero, List.set_cons_succ]
    refine AnyBut.takeS (i := 11) (v := ?v11) rfl (by kernel_rfl) (Nat.le_of_eq (by kernel_rfl)) (by kernel_rfl) (by kernel_rfl) (fun _ _ _ h => h) (HS8.out) (Or.inl ⟨by kernel_rfl, ?hy11⟩) ?r11
    case hy11 =>
      intro w hSw
      try dsimp only at hSw
      go_simp
      first | (obtain ⟨yb, y0, y1⟩ := hSw; clear yb; go_simp) | skip
      try with_reducible rfl
    try simp only [Act.put, List.getElem_toArray, List.getElem_cons_succ, List.getElem_cons_zero, List.setIfInBounds_toArray, List.set_cons_zero, List.set_cons_succ]
    refine AnyBut.one (i := 12) (by kernel_rfl) rfl (fun K hK => ?_)
    go_simp
    have HK9 := Lib.hid (HK8.out.alloc (.cells #[.int .u8 32, .int .u8 (48 + kind), .int .u8 (48 + temp), .int .u8 (48 + mi)] 5))
    have HS9 := Lib.hid (HSS.out _ HK9.out)
    refine hK.out _ _ (HS9.out) ?_
    clear hK K
    try simp only [Act.put, List.getElem_toArray, List.getElem_cons_succ, List.getElem_cons_zero, List.setIfInBounds_toArray, List.set_cons_zero, List.set_cons_succ]
    refine AnyBut.takeS (i := 13) (v := ?v12) rfl (by kernel_rfl) (Nat.le_of_eq (by kernel_rfl)) (by kernel_rfl) (by kernel_rfl) (fun _ _ _ h => h) (HS9.out) (Or.inl ⟨by kernel_rfl, ?hy12⟩) ?r12
    case hy12 =>
      intro w hSw
      try dsimp only at hSw
      go_simp
      first | (obtain ⟨yb, y0, y1⟩ := hSw; clear yb; go_simp) | skip
      try with_reducible rfl
    try simp only [Act.put, List.getElem_toArray, List.getElem_cons_succ, List.getElem_cons_zero, List.setIfInBounds_toArray, List.set_cons_zero, List.set_cons_succ]
    refine AnyBut.done (by kernel_rfl) ?_
    have hcv : (convert 33 9 (.slice (some ⟨w8.heap.size, 0, none⟩) 4 4)).run Tryz.prog (w8.alloc (.cells #[.int .u8 32, .int .u8 (48 + kind), .int .u8 (48 + temp), .int .u8 (48 + mi)] 5)) = .ok (.string DS) (w8.alloc (.cells #[.int .u8 32, .int .u8 (48 + kind), .int .u8 (48 + temp), .int .u8 (48 + mi)] 5)) := by
      rw [HDS.out.1]
      exact run_strI (l := [32, 48 + kind, 48 + temp, 48 + mi]) (SlAt.ofOwn (own_fresh w8 5 1 (u8s [32, 48 + kind, 48 + temp, 48 + mi]) 4 rfl (by unfold maxLen; omega))) 33 5 9 Tryz.underlying33 Tryz.underlying5 Tryz.underlying9
    have hadd : ∀ w', (Op.stringOp .add tt DS).run Tryz.prog w' = .ok (.string KT) w' := fun w' => by rw [run_string_add_sum w' tt DS HDS.out.2.2, HDS.out.2.1]
    have HKE := Lib.hid (HK1.out.trans (HK4.out.trans HK9.out))
    go_wp2
    exact HQY.out _ (by trivial) HKE.out
  · have q1 : ((CK : Int) != 0) = true := bneT (by omega)
    have q1' : (CK != 0) = true := by simp [hc]
    have HF := Lib.hid (HQN.out w2 hc (HK1.out.trans HK2.out))
    clear hc
    go_wp2
    exact HF.out
end Go.Proofs.YteflepcmblacaaaGreatDoor
