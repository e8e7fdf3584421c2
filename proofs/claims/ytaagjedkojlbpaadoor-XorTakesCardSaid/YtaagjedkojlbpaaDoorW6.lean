/- package xor: take. -/
import Derived.Test.YtaagjedkojlbpaaDoorW3
import Derived.Test.YtaagjedkojlbpaaDoorW5
namespace Go.Proofs.YtaagjedkojlbpaaDoor
open Go.RowKit
attribute [local go_sem ↓] Go.wp_at_zero Go.wp_at_succ

/-- What taking the bits in a window leaves: so much was told, with such an error. -/
def XTook (w : World) (B p : Nat) (v : Value) (bs : List Bool) (t V N E : Nat) (e : Ending) (w' : World) : Prop :=
  e = .returned (.tuple #[.int .u64 (V : Int), .int .i64 (E : Int)]) ∧ (∃ t', BrAt w' B p v bs t' ∧ (E = 0 → t' = t + N)) ∧ Kept (fun k => k = p) w w'
set_option maxHeartbeats 4000000 in
set_option maxRecDepth 100000 in
theorem xtake_any (B p : Nat) (v : Value) (bs : List Bool) (t f s : Nat) (w : World) (HR : BrAt w B p v bs t) (hs : 1 ≤ s) (hf : f + s ≤ 64) (hl : bs.length ≤ 100000000) :
    ((bs.drop t).length < s → Calls Tryd.prog 79 #[.pointer (some ⟨p, 0, none⟩), winV f s] w (XTook w B p v bs t 0 0 2)) ∧
    (∀ y, s ≤ (bs.drop t).length → y = numB ((bs.drop t).take s) → y = 0 → Calls Tryd.prog 79 #[.pointer (some ⟨p, 0, none⟩), winV f s] w (XTook w B p v bs t 0 0 3)) ∧
    (∀ y, s ≤ (bs.drop t).length → y = numB ((bs.drop t).take s) → y ≠ 0 → Calls Tryd.prog 79 #[.pointer (some ⟨p, 0, none⟩), winV f s] w (XTook w B p v bs t (outX f s y) s 0)) := by
  have hpl := HR.lt
  have htk := HR.taken
  rw [List.length_drop]
  have HBH := behind_any f s (by omega) (by omega)
  rw [show 64 - (f : Int) - (s : Int) = ((64 - f - s : Nat) : Int) by omega] at HBH
  have HBH := Lib.hid HBH
  have KB := Lib.hid ((((Kept.refl (fun _ => False) w).alloc (.cells #[.int .i64 (f : Int), .int .i64 (s : Int)] 91))).mono (S' := fun k => k = p) (fun _ _ x => x.elim))
  have HR0 := Lib.hid (HR.keptF ((Kept.refl (fun _ => False) w).alloc (.cells #[.int .i64 (f : Int), .int .i64 (s : Int)] 91)))
  have hb := (WinBox.new w (f : Int) (s : Int)).c
  have HSB := Lib.hid fun w1 (k : Kept (fun k => k = p) (w.alloc (.cells #[.int .i64 (f : Int), .int .i64 (s : Int)] 91)) w1) => show w1.cell? ⟨w.heap.size, 0, none⟩ = some (.int .i64 (f : Int)) ∧ w1.cell? ⟨w.heap.size, 1, none⟩ = some (.int .i64 (s : Int)) from ⟨k.cell hb.1 (show ¬ w.heap.size = p by omega), k.cell hb.2 (show ¬ w.heap.size = p by omega)⟩
  obtain ⟨D, hD⟩ : ∃ D, D = 64 - f - s := ⟨_, rfl⟩
  rw [← hD] at HBH
  have hD63 : D ≤ 63 := by omega
  unfold winV at HBH ⊢
  clear HR hb
  refine ⟨?_, ?_, ?_⟩
  · intro hlt
    have HT1 := Lib.hid (btake_no B p v bs t (s : Int) _ HR0.out (by omega) (.inr (.inr (by omega))))
    clear hlt hs hf hD
    go_enter Tryd.func79, Tryd.ntmps79
    go_wp2_with fail
    refine (HT1.out).mono ?_
    rintro e w1 ⟨rfl, hq1, k1⟩
    have HQ1 := Lib.hid hq1
    have HK1 := Lib.hid (KB.out.trans k1)
    have hs1 := HSB.out _ k1
    have HSS := Lib.hid fun w' (k : Kept (fun _ => False) w1.drew w') => show w'.cell? ⟨w.heap.size, 0, none⟩ = some (.int .i64 (f : Int)) ∧ w'.cell? ⟨w.heap.size, 1, none⟩ = some (.int .i64 (s : Int)) from ⟨((Kept.refl (fun _ => False) _).drew.trans k).cell hs1.1 (fun x => x), ((Kept.refl (fun _ => False) _).drew.trans k).cell hs1.2 (fun x => x)⟩
    have HS1 := Lib.hid (HSS.out _ (Kept.refl _ _))
    obtain ⟨cs0, cs1⟩ := hs1
    clear hq1 k1
    go_wp2
    refine AnyBut.start (S := fun w' => w'.cell? ⟨w.heap.size, 0, none⟩ = some (.int .i64 (f : Int)) ∧ w'.cell? ⟨w.heap.size, 1, none⟩ = some (.int .i64 (s : Int))) (k := 8) (by kernel_rfl) ?_
    refine AnyBut.takeS (i := 0) (v := ?v1) rfl (by kernel_rfl) (Nat.le_of_eq (by kernel_rfl)) (by kernel_rfl) (by kernel_rfl) (fun _ _ _ h => h) (HS1.out) (Or.inl ⟨by kernel_rfl, ?hy1⟩) ?r1
    case hy1 =>
      intro w hSw
      try dsimp only at hSw
      go_simp
      try with_reducible rfl
    try simp only [Act.put, List.getElem_toArray, List.getElem_cons_zero, List.setIfInBounds_toArray, List.set_cons_zero, List.set_cons_succ]
    refine AnyBut.takeS (i := 1) (v := ?v2) rfl (by kernel_rfl) (Nat.le_of_eq (by kernel_rfl)) (by kernel_rfl) (by kernel_rfl) (fun _ _ _ h => h) (HS1.out) (Or.inl ⟨by kernel_rfl, ?hy2⟩) ?r2
    case hy2 =>
      intro w hSw
      try dsimp only at hSw
      go_simp
      try with_reducible rfl
    try simp only [Act.put, List.getElem_toArray, List.getElem_cons_succ, List.getElem_cons_zero, List.setIfInBounds_toArray, List.set_cons_zero, List.set_cons_succ]
    refine AnyBut.takeS (i := 4) (v := ?v3) rfl (by kernel_rfl) (Nat.le_of_eq (by kernel_rfl)) (by kernel_rfl) (by kernel_rfl) (fun _ _ _ h => h) (HS1.out) (Or.inl ⟨by kernel_rfl, ?hy3⟩) ?r3
    case hy3 =>
      intro w hSw
      try dsimp only at hSw
      go_simp
      try with_reducible rfl
    try simp only [Act.put, List.getElem_toArray, List.getElem_cons_succ, List.getElem_cons_zero, List.setIfInBounds_toArray, List.set_cons_zero, List.set_cons_succ]
    refine AnyBut.one (i := 2) (by kernel_rfl) rfl (fun K hK => ?_)
    go_simp
    go_wp2_with fail
    refine (HBH.out _).mono ?_
    rintro e w6 ⟨rfl, k6⟩
    have H6 := Lib.hid k6
    have HS6 := Lib.hid (HSS.out _ k6)
    clear k6
    go_wp2
    refine hK.out _ _ (HS6.out) ?_
    clear hK K
    try simp only [Act.put, List.getElem_toArray, List.getElem_cons_succ, List.getElem_cons_zero, List.setIfInBounds_toArray, List.set_cons_zero, List.set_cons_succ]
    refine AnyBut.takeS (i := 3) (v := ?v4) rfl (by kernel_rfl) (Nat.le_of_eq (by kernel_rfl)) (by kernel_rfl) (by kernel_rfl) (fun _ _ _ h => h) (HS6.out) (Or.inl ⟨by kernel_rfl, ?hy4⟩) ?r4
    case hy4 =>
      intro w hSw
      try dsimp only at hSw
      go_simp
      try with_reducible rfl
    try simp only [Act.put, List.getElem_toArray, List.getElem_cons_succ, List.getElem_cons_zero, List.setIfInBounds_toArray, List.set_cons_zero, List.set_cons_succ]
    refine AnyBut.one (i := 5) (by kernel_rfl) rfl (fun K hK => ?_)
    go_simp
    go_wp2_with fail
    refine (short_any false _).mono ?_
    rintro e w7 ⟨rfl, rfl⟩
    go_wp2
    refine hK.out _ _ (HS6.out) ?_
    clear hK K
    try simp only [Act.put, List.getElem_toArray, List.getElem_cons_succ, List.getElem_cons_zero, List.setIfInBounds_toArray, List.set_cons_zero, List.set_cons_succ]
    refine AnyBut.takeS (i := 6) (v := ?v5) rfl (by kernel_rfl) (Nat.le_of_eq (by kernel_rfl)) (by kernel_rfl) (by kernel_rfl) (fun _ _ _ h => h) (HS6.out) (Or.inl ⟨by kernel_rfl, ?hy5⟩) ?r5
    case hy5 =>
      intro w hSw
      try dsimp only at hSw
      go_simp
      try with_reducible rfl
    try simp only [Act.put, List.getElem_toArray, List.getElem_cons_succ, List.getElem_cons_zero, List.setIfInBounds_toArray, List.set_cons_zero, List.set_cons_succ]
    refine AnyBut.takeS (i := 7) (v := ?v6) rfl (by kernel_rfl) (Nat.le_of_eq (by kernel_rfl)) (by kernel_rfl) (by kernel_rfl) (fun _ _ _ h => h) (HS6.out) (Or.inl ⟨by kernel_rfl, ?hy6⟩) ?r6
    case hy6 =>
      intro w hSw
      try dsimp only at hSw
      go_simp
      try with_reducible rfl
    try simp only [Act.put, List.getElem_toArray, List.getElem_cons_succ, List.getElem_cons_zero, List.setIfInBounds_toArray, List.set_cons_zero, List.set_cons_succ]
    refine AnyBut.done (by kernel_rfl) ?_
    go_wp2
    go_ret2
    exact ⟨rfl, ⟨t, HQ1.out.keptF ((Kept.refl _ _).drew.trans H6.out), fun h => absurd h (by decide)⟩, HK1.out.trans (((Kept.refl _ _).drew.trans H6.out).mono (fun _ _ x => x.elim))⟩
  · intro y hle hy h0
    have ht1 := btake_yes B p v bs t s _ HR0.out (by omega) (by omega) (by omega)
    rw [← hy, h0] at ht1
    have HT1 := Lib.hid ht1
    clear hle hs hf hD hy h0 ht1
    go_enter Tryd.func79, Tryd.ntmps79
    go_wp2_with fail
    refine (HT1.out).mono ?_
    rintro e w1 ⟨rfl, hq1, k1⟩
    have HQ1 := Lib.hid hq1
    have HK1 := Lib.hid (KB.out.trans k1)
    have hs1 := HSB.out _ k1
    have HSS := Lib.hid fun w' (k : Kept (fun _ => False) w1.drew w') => show w'.cell? ⟨w.heap.size, 0, none⟩ = some (.int .i64 (f : Int)) ∧ w'.cell? ⟨w.heap.size, 1, none⟩ = some (.int .i64 (s : Int)) from ⟨((Kept.refl (fun _ => False) _).drew.trans k).cell hs1.1 (fun x => x), ((Kept.refl (fun _ => False) _).drew.trans k).cell hs1.2 (fun x => x)⟩
    have HS1 := Lib.hid (HSS.out _ (Kept.refl _ _))
    obtain ⟨cs0, cs1⟩ := hs1
    clear hq1 k1
    go_wp2
    go_ret2
    exact ⟨rfl, ⟨t + s, HQ1.out, fun h => absurd h (by decide)⟩, HK1.out⟩
  · intro y hle hy h0
    have ht1 := btake_yes B p v bs t s _ HR0.out (by omega) (by omega) (by omega)
    rw [← hy] at ht1
    have HT1 := Lib.hid ht1
    have hy2 : y < 2 ^ s := by rw [hy]; exact numB_two _ _
    have hx := outX_lt f s y hf hy2
    have y0 : ((y : Int) == 0) = false := by simp; omega
    have hX : IntKind.u64.wrap ((y : Int) * 2 ^ D) = ((outX f s y : Nat) : Int) := by
      have e : (y : Int) * 2 ^ D = ((outX f s y : Nat) : Int) := by unfold outX; rw [← hD]; simp
      rw [e, IntKind.wrap_u64]; omega
    obtain ⟨X, hXe⟩ : ∃ X, X = outX f s y := ⟨_, rfl⟩
    rw [← hXe] at hX ⊢
    clear hle hs hf hD hy h0 ht1 hy2 hx hXe
    go_enter Tryd.func79, Tryd.ntmps79
    go_wp2_with fail
    refine (HT1.out).mono ?_
    rintro e w1 ⟨rfl, hq1, k1⟩
    have HQ1 := Lib.hid hq1
    have HK1 := Lib.hid (KB.out.trans k1)
    have hs1 := HSB.out _ k1
    have HSS := Lib.hid fun w' (k : Kept (fun _ => False) w1.drew w') => show w'.cell? ⟨w.heap.size, 0, none⟩ = some (.int .i64 (f : Int)) ∧ w'.cell? ⟨w.heap.size, 1, none⟩ = some (.int .i64 (s : Int)) from ⟨((Kept.refl (fun _ => False) _).drew.trans k).cell hs1.1 (fun x => x), ((Kept.refl (fun _ => False) _).drew.trans k).cell hs1.2 (fun x => x)⟩
    have HS1 := Lib.hid (HSS.out _ (Kept.refl _ _))
    obtain ⟨cs0, cs1⟩ := hs1
    clear hq1 k1
    go_wp2
    refine AnyBut.start (S := fun w' => w'.cell? ⟨w.heap.size, 0, none⟩ = some (.int .i64 (f : Int)) ∧ w'.cell? ⟨w.heap.size, 1, none⟩ = some (.int .i64 (s : Int))) (k := 8) (by kernel_rfl) ?_
    refine AnyBut.takeS (i := 0) (v := ?v7) rfl (by kernel_rfl) (Nat.le_of_eq (by kernel_rfl)) (by kernel_rfl) (by kernel_rfl) (fun _ _ _ h => h) (HS1.out) (Or.inl ⟨by kernel_rfl, ?hy7⟩) ?r7
    case hy7 =>
      intro w hSw
      try dsimp only at hSw
      go_simp
      try with_reducible rfl
    try simp only [Act.put, List.getElem_toArray, List.getElem_cons_zero, List.setIfInBounds_toArray, List.set_cons_zero, List.set_cons_succ]
    refine AnyBut.takeS (i := 1) (v := ?v8) rfl (by kernel_rfl) (Nat.le_of_eq (by kernel_rfl)) (by kernel_rfl) (by kernel_rfl) (fun _ _ _ h => h) (HS1.out) (Or.inl ⟨by kernel_rfl, ?hy8⟩) ?r8
    case hy8 =>
      intro w hSw
      try dsimp only at hSw
      go_simp
      try with_reducible rfl
    try simp only [Act.put, List.getElem_toArray, List.getElem_cons_succ, List.getElem_cons_zero, List.setIfInBounds_toArray, List.set_cons_zero, List.set_cons_succ]
    refine AnyBut.takeS (i := 4) (v := ?v9) rfl (by kernel_rfl) (Nat.le_of_eq (by kernel_rfl)) (by kernel_rfl) (by kernel_rfl) (fun _ _ _ h => h) (HS1.out) (Or.inl ⟨by kernel_rfl, ?hy9⟩) ?r9
    case hy9 =>
      intro w hSw
      try dsimp only at hSw
      go_simp
      try with_reducible rfl
    try simp only [Act.put, List.getElem_toArray, List.getElem_cons_succ, List.getElem_cons_zero, List.setIfInBounds_toArray, List.set_cons_zero, List.set_cons_succ]
    refine AnyBut.one (i := 2) (by kernel_rfl) rfl (fun K hK => ?_)
    go_simp
    go_wp2_with fail
    refine (HBH.out _).mono ?_
    rintro e w6 ⟨rfl, k6⟩
    have H6 := Lib.hid k6
    have HS6 := Lib.hid (HSS.out _ k6)
    clear k6
    go_wp2
    refine hK.out _ _ (HS6.out) ?_
    clear hK K
    try simp only [Act.put, List.getElem_toArray, List.getElem_cons_succ, List.getElem_cons_zero, List.setIfInBounds_toArray, List.set_cons_zero, List.set_cons_succ]
    refine AnyBut.takeS (i := 3) (v := ?v10) rfl (by kernel_rfl) (Nat.le_of_eq (by kernel_rfl)) (by kernel_rfl) (by kernel_rfl) (fun _ _ _ h => h) (HS6.out) (Or.inl ⟨by kernel_rfl, ?hy10⟩) ?r10
    case hy10 =>
      intro w hSw
      try dsimp only at hSw
      go_simp
      try with_reducible rfl
    try simp only [Act.put, List.getElem_toArray, List.getElem_cons_succ, List.getElem_cons_zero, List.setIfInBounds_toArray, List.set_cons_zero, List.set_cons_succ]
    refine AnyBut.one (i := 5) (by kernel_rfl) rfl (fun K hK => ?_)
    go_simp
    go_wp2_with fail
    refine (short_any true _).mono ?_
    rintro e w7 ⟨rfl, rfl⟩
    go_wp2
    refine hK.out _ _ (HS6.out) ?_
    clear hK K
    try simp only [Act.put, List.getElem_toArray, List.getElem_cons_succ, List.getElem_cons_zero, List.setIfInBounds_toArray, List.set_cons_zero, List.set_cons_succ]
    refine AnyBut.takeS (i := 6) (v := ?v11) rfl (by kernel_rfl) (Nat.le_of_eq (by kernel_rfl)) (by kernel_rfl) (by kernel_rfl) (fun _ _ _ h => h) (HS6.out) (Or.inl ⟨by kernel_rfl, ?hy11⟩) ?r11
    case hy11 =>
      intro w hSw
      try dsimp only at hSw
      go_simp
      try with_reducible rfl
    try simp only [Act.put, List.getElem_toArray, List.getElem_cons_succ, List.getElem_cons_zero, List.setIfInBounds_toArray, List.set_cons_zero, List.set_cons_succ]
    refine AnyBut.takeS (i := 7) (v := ?v12) rfl (by kernel_rfl) (Nat.le_of_eq (by kernel_rfl)) (by kernel_rfl) (by kernel_rfl) (fun _ _ _ h => h) (HS6.out) (Or.inl ⟨by kernel_rfl, ?hy12⟩) ?r12
    case hy12 =>
      intro w hSw
      try dsimp only at hSw
      go_simp
      try with_reducible rfl
    try simp only [Act.put, List.getElem_toArray, List.getElem_cons_succ, List.getElem_cons_zero, List.setIfInBounds_toArray, List.set_cons_zero, List.set_cons_succ]
    refine AnyBut.done (by kernel_rfl) ?_
    go_wp2
    go_ret2
    exact ⟨rfl, ⟨t + s, HQ1.out.keptF ((Kept.refl _ _).drew.trans H6.out), fun _ => rfl⟩, HK1.out.trans (((Kept.refl _ _).drew.trans H6.out).mono (fun _ _ x => x.elim))⟩
end Go.Proofs.YtaagjedkojlbpaaDoor
