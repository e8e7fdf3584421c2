/- Layer 18: what do does in both disks: Create, Sync, Cut, Rename, Remove, Boot (written by tools/gen_XSP.py). -/
import Derived.Test.YtdhfalcjohfdkaaSO
namespace Go.Proofs.Ytdhfalcjohfdkaa
open Go.RowKit
attribute [local go_sem ↓] Go.wp_at_zero Go.wp_at_succ

set_option maxRecDepth 100000 in
set_option maxHeartbeats 8000000 in
theorem do_create (W : World) (db mb : Nat) (L : List (ByteArray × Fi)) (rb : Nat) (ao : Option Addr) (cp : Nat) (LR : List RF) (D D' : DA) (x : Ac) (w : World) (h : Half W w db mb L rb ao cp LR D D')
    (hx : x.Ok W) (hk : x.kind = 0) :
    Calls Try.prog 12 #[.pointer (some ⟨db, 0, none⟩), .pointer (some ⟨rb, 0, none⟩), .agg x.box] w (DoTo W db mb rb (actD D x) (actD D' x)) := by
  obtain ⟨k, A, B, n, z, ka, kc, keep⟩ := x
  have HX := Lib.hid (fun E : DA => show actD E ⟨k, A, B, n, z, ka, kc, keep⟩ = createD E A by unfold actD; rw [hk]; rfl)
  obtain ⟨kn, hkn⟩ : ∃ kn, kn = keep.length := ⟨_, rfl⟩
  have HS := Lib.hid (And.intro (show A.size ≤ maxLen by have := hx.A; unfold maxLen; dsimp only at this; omega) (And.intro (show B.size ≤ maxLen by have := hx.B; unfold maxLen; dsimp only at this; omega) (show B.size ≤ 100 from hx.B)))
  have HKP := Lib.hid (And.intro hx.at_ hx.keep)
  have HKN := Lib.hid hkn
  unfold Ac.box
  dsimp only at hk hx ⊢ HX HKP
  subst hk
  rw [← hkn] at HKP ⊢
  obtain ⟨q, hq⟩ : ∃ q, q = w.heap.size := ⟨_, rfl⟩
  obtain ⟨w0, hw0⟩ : ∃ w0, w0 = w.alloc (.cells #[.int .i64 0, .string A, .string B, .int .i64 n, .int .i64 z, .slice ka kn kc] 36) := ⟨_, rfl⟩
  have k0 : Kept (fun _ => False) w w0 := by rw [hw0]; exact (Kept.refl _ _).alloc _
  have b0 : BoxAt w0 q 36 #[.int .i64 0, .string A, .string B, .int .i64 n, .int .i64 z, .slice ka kn kc] := by rw [hw0, hq]; exact BoxAt.new w _ _
  have HQ := Lib.hid (h.old (q := q) (by omega))
  have HW := Lib.hid (And.intro hw0 hq)
  have kd : Kept (fun _ => False) w0 w0.drew := (Kept.refl _ _).drew
  have h0 := (h.on k0).on kd
  have HB0 := Lib.hid (b0.kept kd (fun x => x))
  have HH := Lib.hid h0
  have d0 : w0.cell? ⟨q, 0, none⟩ = some (.int .i64 0) := b0.cell rfl
  have HS0 : Hid ((fun w' => w'.cell? ⟨q, 1, none⟩ = some (.string A) ∧ w'.cell? ⟨q, 2, none⟩ = some (.string B) ∧ w'.cell? ⟨q, 3, none⟩ = some (.int .i64 n) ∧ w'.cell? ⟨q, 5, none⟩ = some (.slice ka kn kc)) w0.drew) := Lib.hid ⟨HB0.out.cell rfl, HB0.out.cell rfl, HB0.out.cell rfl, HB0.out.cell rfl⟩
  have HC := Lib.hid (dCreate_any W.heap.size db mb L D A HS.out.1 w0.drew HH.out.d)
  obtain ⟨r, hr⟩ : ∃ r, r = createD D A := ⟨_, rfl⟩
  obtain ⟨s, hs⟩ : ∃ s, s = createD D' A := ⟨_, rfl⟩
  rw [← hr] at HC
  have HR := Lib.hid (And.intro hr hs)
  clear hr hs
  clear hx hkn h hw0 hq k0 b0 h0 kd
  go_enter Try.func12, Try.ntmps12
  go_upto_region 1 with fail
  rw [← HW.out.1, ← HW.out.2]
  go_upto_region 3 with fail
  refine AnyBut.start (S := fun w' => w'.cell? ⟨q, 1, none⟩ = some (.string A) ∧ w'.cell? ⟨q, 2, none⟩ = some (.string B) ∧ w'.cell? ⟨q, 3, none⟩ = some (.int .i64 n) ∧ w'.cell? ⟨q, 5, none⟩ = some (.slice ka kn kc)) (k := 10) (by kernel_rfl) ?_
  refine AnyBut.takeS (i := 0) (v := ?v1) rfl (by kernel_rfl) (Nat.le_of_eq (by kernel_rfl)) (by kernel_rfl) (by kernel_rfl) (fun _ _ _ h => h) (HS0.out) (Or.inl ⟨by kernel_rfl, ?hy1⟩) ?r1
  case hy1 =>
    intro w hSw
    try dsimp only at hSw
    go_simp
    first | (obtain ⟨y0, y1, y2, y3⟩ := hSw; go_simp) | skip
    try with_reducible rfl
  try simp only [Act.put, List.getElem_toArray, List.getElem_cons_zero, List.setIfInBounds_toArray, List.set_cons_zero, List.set_cons_succ]
  refine AnyBut.takeS (i := 1) (v := ?v2) rfl (by kernel_rfl) (Nat.le_of_eq (by kernel_rfl)) (by kernel_rfl) (by kernel_rfl) (fun _ _ _ h => h) (HS0.out) (Or.inl ⟨by kernel_rfl, ?hy2⟩) ?r2
  case hy2 =>
    intro w hSw
    try dsimp only at hSw
    go_simp
    first | (obtain ⟨y0, y1, y2, y3⟩ := hSw; go_simp) | skip
    try with_reducible rfl
  try simp only [Act.put, List.getElem_toArray, List.getElem_cons_succ, List.getElem_cons_zero, List.setIfInBounds_toArray, List.set_cons_zero, List.set_cons_succ]
  refine AnyBut.takeS (i := 2) (v := ?v3) rfl (by kernel_rfl) (Nat.le_of_eq (by kernel_rfl)) (by kernel_rfl) (by kernel_rfl) (fun _ _ _ h => h) (HS0.out) (Or.inl ⟨by kernel_rfl, ?hy3⟩) ?r3
  case hy3 =>
    intro w hSw
    try dsimp only at hSw
    go_simp
    first | (obtain ⟨y0, y1, y2, y3⟩ := hSw; go_simp) | skip
    try with_reducible rfl
  try simp only [Act.put, List.getElem_toArray, List.getElem_cons_succ, List.getElem_cons_zero, List.setIfInBounds_toArray, List.set_cons_zero, List.set_cons_succ]
  refine AnyBut.takeS (i := 4) (v := ?v4) rfl (by kernel_rfl) (Nat.le_of_eq (by kernel_rfl)) (by kernel_rfl) (by kernel_rfl) (fun _ _ _ h => h) (HS0.out) (Or.inl ⟨by kernel_rfl, ?hy4⟩) ?r4
  case hy4 =>
    intro w hSw
    try dsimp only at hSw
    go_simp
    first | (obtain ⟨y0, y1, y2, y3⟩ := hSw; go_simp) | skip
    try with_reducible rfl
  try simp only [Act.put, List.getElem_toArray, List.getElem_cons_succ, List.getElem_cons_zero, List.setIfInBounds_toArray, List.set_cons_zero, List.set_cons_succ]
  refine AnyBut.takeS (i := 5) (v := ?v5) rfl (by kernel_rfl) (Nat.le_of_eq (by kernel_rfl)) (by kernel_rfl) (by kernel_rfl) (fun _ _ _ h => h) (HS0.out) (Or.inl ⟨by kernel_rfl, ?hy5⟩) ?r5
  case hy5 =>
    intro w hSw
    try dsimp only at hSw
    go_simp
    first | (obtain ⟨y0, y1, y2, y3⟩ := hSw; go_simp) | skip
    try with_reducible rfl
  try simp only [Act.put, List.getElem_toArray, List.getElem_cons_succ, List.getElem_cons_zero, List.setIfInBounds_toArray, List.set_cons_zero, List.set_cons_succ]
  refine AnyBut.takeS (i := 6) (v := ?v6) rfl (by kernel_rfl) (Nat.le_of_eq (by kernel_rfl)) (by kernel_rfl) (by kernel_rfl) (fun _ _ _ h => h) (HS0.out) (Or.inl ⟨by kernel_rfl, ?hy6⟩) ?r6
  case hy6 =>
    intro w hSw
    try dsimp only at hSw
    go_simp
    first | (obtain ⟨y0, y1, y2, y3⟩ := hSw; go_simp) | skip
    try with_reducible rfl
  try simp only [Act.put, List.getElem_toArray, List.getElem_cons_succ, List.getElem_cons_zero, List.setIfInBounds_toArray, List.set_cons_zero, List.set_cons_succ]
  refine AnyBut.one (i := 3) (by kernel_rfl) rfl (fun K hK => ?_)
  go_simp
  go_wp2_with fail
  refine HC.out.mono ?_
  intro e w1 hq
  obtain ⟨L1, rfl, h1, k1⟩ := HH.out.prog hq
  have HH1 := Lib.hid h1
  have HB1 := Lib.hid (HB0.out.kept k1 HQ.out.1)
  have HS1 : Hid ((fun w' => w'.cell? ⟨q, 1, none⟩ = some (.string A) ∧ w'.cell? ⟨q, 2, none⟩ = some (.string B) ∧ w'.cell? ⟨q, 3, none⟩ = some (.int .i64 n) ∧ w'.cell? ⟨q, 5, none⟩ = some (.slice ka kn kc)) w1) := Lib.hid ⟨HB1.out.cell rfl, HB1.out.cell rfl, HB1.out.cell rfl, HB1.out.cell rfl⟩
  have HC2 := Lib.hid (refCreate_any rb ao cp LR D' A HS.out.1 w1 h1.r)
  rw [← HR.out.2] at HC2
  clear hq h1 k1
  go_wp2
  refine hK.out _ _ (HS1.out) ?_
  clear hK K
  try simp only [Act.put, List.getElem_toArray, List.getElem_cons_succ, List.getElem_cons_zero, List.setIfInBounds_toArray, List.set_cons_zero, List.set_cons_succ]
  refine AnyBut.one (i := 7) (by kernel_rfl) rfl (fun K hK => ?_)
  go_simp
  go_wp2_with fail
  refine HC2.out.mono ?_
  intro e w2 hq
  obtain ⟨ao2, cp2, LR2, rfl, h2, k2⟩ := HH1.out.doc hq
  have HF := Lib.hid h2
  have HB2 := Lib.hid (HB1.out.kept k2 (fun e => HQ.out.2 e))
  have HS2 : Hid ((fun w' => w'.cell? ⟨q, 1, none⟩ = some (.string A) ∧ w'.cell? ⟨q, 2, none⟩ = some (.string B) ∧ w'.cell? ⟨q, 3, none⟩ = some (.int .i64 n) ∧ w'.cell? ⟨q, 5, none⟩ = some (.slice ka kn kc)) w2) := Lib.hid ⟨HB2.out.cell rfl, HB2.out.cell rfl, HB2.out.cell rfl, HB2.out.cell rfl⟩
  clear hq h2 k2
  go_wp2
  refine hK.out _ _ (HS2.out) ?_
  clear hK K
  try simp only [Act.put, List.getElem_toArray, List.getElem_cons_succ, List.getElem_cons_zero, List.setIfInBounds_toArray, List.set_cons_zero, List.set_cons_succ]
  refine AnyBut.takeS (i := 8) (v := ?v7) rfl (by kernel_rfl) (Nat.le_of_eq (by kernel_rfl)) (by kernel_rfl) (by kernel_rfl) (fun _ _ _ h => h) (HS2.out) (Or.inl ⟨by kernel_rfl, ?hy7⟩) ?r7
  case hy7 =>
    intro w hSw
    try dsimp only at hSw
    go_simp
    first | (obtain ⟨y0, y1, y2, y3⟩ := hSw; go_simp) | skip
    try with_reducible rfl
  try simp only [Act.put, List.getElem_toArray, List.getElem_cons_succ, List.getElem_cons_zero, List.setIfInBounds_toArray, List.set_cons_zero, List.set_cons_succ]
  refine AnyBut.takeS (i := 9) (v := ?v8) rfl (by kernel_rfl) (Nat.le_of_eq (by kernel_rfl)) (by kernel_rfl) (by kernel_rfl) (fun _ _ _ h => h) (HS2.out) (Or.inl ⟨by kernel_rfl, ?hy8⟩) ?r8
  case hy8 =>
    intro w hSw
    try dsimp only at hSw
    go_simp
    first | (obtain ⟨y0, y1, y2, y3⟩ := hSw; go_simp) | skip
    try with_reducible rfl
  try simp only [Act.put, List.getElem_toArray, List.getElem_cons_succ, List.getElem_cons_zero, List.setIfInBounds_toArray, List.set_cons_zero, List.set_cons_succ]
  refine AnyBut.done (by kernel_rfl) ?_
  go_wp2
  go_ret
  rw [HX.out D, HX.out D', ← HR.out.1, ← HR.out.2]
  exact ⟨rfl, _, _, _, _, HF.out⟩

set_option maxRecDepth 100000 in
set_option maxHeartbeats 8000000 in
theorem do_sync (W : World) (db mb : Nat) (L : List (ByteArray × Fi)) (rb : Nat) (ao : Option Addr) (cp : Nat) (LR : List RF) (D D' : DA) (x : Ac) (w : World) (h : Half W w db mb L rb ao cp LR D D')
    (hx : x.Ok W) (hk : x.kind = 2) :
    Calls Try.prog 12 #[.pointer (some ⟨db, 0, none⟩), .pointer (some ⟨rb, 0, none⟩), .agg x.box] w (DoTo W db mb rb (actD D x) (actD D' x)) := by
  obtain ⟨k, A, B, n, z, ka, kc, keep⟩ := x
  have HX := Lib.hid (fun E : DA => show actD E ⟨k, A, B, n, z, ka, kc, keep⟩ = syncD E A by unfold actD; rw [hk]; rfl)
  obtain ⟨kn, hkn⟩ : ∃ kn, kn = keep.length := ⟨_, rfl⟩
  have HS := Lib.hid (And.intro (show A.size ≤ maxLen by have := hx.A; unfold maxLen; dsimp only at this; omega) (And.intro (show B.size ≤ maxLen by have := hx.B; unfold maxLen; dsimp only at this; omega) (show B.size ≤ 100 from hx.B)))
  have HKP := Lib.hid (And.intro hx.at_ hx.keep)
  have HKN := Lib.hid hkn
  unfold Ac.box
  dsimp only at hk hx ⊢ HX HKP
  subst hk
  rw [← hkn] at HKP ⊢
  obtain ⟨q, hq⟩ : ∃ q, q = w.heap.size := ⟨_, rfl⟩
  obtain ⟨w0, hw0⟩ : ∃ w0, w0 = w.alloc (.cells #[.int .i64 2, .string A, .string B, .int .i64 n, .int .i64 z, .slice ka kn kc] 36) := ⟨_, rfl⟩
  have k0 : Kept (fun _ => False) w w0 := by rw [hw0]; exact (Kept.refl _ _).alloc _
  have b0 : BoxAt w0 q 36 #[.int .i64 2, .string A, .string B, .int .i64 n, .int .i64 z, .slice ka kn kc] := by rw [hw0, hq]; exact BoxAt.new w _ _
  have HQ := Lib.hid (h.old (q := q) (by omega))
  have HW := Lib.hid (And.intro hw0 hq)
  have kd : Kept (fun _ => False) w0 w0.drew := (Kept.refl _ _).drew
  have h0 := (h.on k0).on kd
  have HB0 := Lib.hid (b0.kept kd (fun x => x))
  have HH := Lib.hid h0
  have d0 : w0.cell? ⟨q, 0, none⟩ = some (.int .i64 2) := b0.cell rfl
  have HS0 : Hid ((fun w' => w'.cell? ⟨q, 1, none⟩ = some (.string A) ∧ w'.cell? ⟨q, 2, none⟩ = some (.string B) ∧ w'.cell? ⟨q, 3, none⟩ = some (.int .i64 n) ∧ w'.cell? ⟨q, 5, none⟩ = some (.slice ka kn kc)) w0.drew) := Lib.hid ⟨HB0.out.cell rfl, HB0.out.cell rfl, HB0.out.cell rfl, HB0.out.cell rfl⟩
  have HC := Lib.hid (dSync_any W.heap.size db mb L D A HS.out.1 w0.drew HH.out.d)
  obtain ⟨r, hr⟩ : ∃ r, r = syncD D A := ⟨_, rfl⟩
  obtain ⟨s, hs⟩ : ∃ s, s = syncD D' A := ⟨_, rfl⟩
  rw [← hr] at HC
  have HR := Lib.hid (And.intro hr hs)
  clear hr hs
  clear hx hkn h hw0 hq k0 b0 h0 kd
  go_enter Try.func12, Try.ntmps12
  go_upto_region 1 with fail
  rw [← HW.out.1, ← HW.out.2]
  go_upto_region 7 with fail
  refine AnyBut.start (S := fun w' => w'.cell? ⟨q, 1, none⟩ = some (.string A) ∧ w'.cell? ⟨q, 2, none⟩ = some (.string B) ∧ w'.cell? ⟨q, 3, none⟩ = some (.int .i64 n) ∧ w'.cell? ⟨q, 5, none⟩ = some (.slice ka kn kc)) (k := 10) (by kernel_rfl) ?_
  refine AnyBut.takeS (i := 0) (v := ?v9) rfl (by kernel_rfl) (Nat.le_of_eq (by kernel_rfl)) (by kernel_rfl) (by kernel_rfl) (fun _ _ _ h => h) (HS0.out) (Or.inl ⟨by kernel_rfl, ?hy9⟩) ?r9
  case hy9 =>
    intro w hSw
    try dsimp only at hSw
    go_simp
    first | (obtain ⟨y0, y1, y2, y3⟩ := hSw; go_simp) | skip
    try with_reducible rfl
  try simp only [Act.put, List.getElem_toArray, List.getElem_cons_zero, List.setIfInBounds_toArray, List.set_cons_zero, List.set_cons_succ]
  refine AnyBut.takeS (i := 1) (v := ?v10) rfl (by kernel_rfl) (Nat.le_of_eq (by kernel_rfl)) (by kernel_rfl) (by kernel_rfl) (fun _ _ _ h => h) (HS0.out) (Or.inl ⟨by kernel_rfl, ?hy10⟩) ?r10
  case hy10 =>
    intro w hSw
    try dsimp only at hSw
    go_simp
    first | (obtain ⟨y0, y1, y2, y3⟩ := hSw; go_simp) | skip
    try with_reducible rfl
  try simp only [Act.put, List.getElem_toArray, List.getElem_cons_succ, List.getElem_cons_zero, List.setIfInBounds_toArray, List.set_cons_zero, List.set_cons_succ]
  refine AnyBut.takeS (i := 2) (v := ?v11) rfl (by kernel_rfl) (Nat.le_of_eq (by kernel_rfl)) (by kernel_rfl) (by kernel_rfl) (fun _ _ _ h => h) (HS0.out) (Or.inl ⟨by kernel_rfl, ?hy11⟩) ?r11
  case hy11 =>
    intro w hSw
    try dsimp only at hSw
    go_simp
    first | (obtain ⟨y0, y1, y2, y3⟩ := hSw; go_simp) | skip
    try with_reducible rfl
  try simp only [Act.put, List.getElem_toArray, List.getElem_cons_succ, List.getElem_cons_zero, List.setIfInBounds_toArray, List.set_cons_zero, List.set_cons_succ]
  refine AnyBut.takeS (i := 4) (v := ?v12) rfl (by kernel_rfl) (Nat.le_of_eq (by kernel_rfl)) (by kernel_rfl) (by kernel_rfl) (fun _ _ _ h => h) (HS0.out) (Or.inl ⟨by kernel_rfl, ?hy12⟩) ?r12
  case hy12 =>
    intro w hSw
    try dsimp only at hSw
    go_simp
    first | (obtain ⟨y0, y1, y2, y3⟩ := hSw; go_simp) | skip
    try with_reducible rfl
  try simp only [Act.put, List.getElem_toArray, List.getElem_cons_succ, List.getElem_cons_zero, List.setIfInBounds_toArray, List.set_cons_zero, List.set_cons_succ]
  refine AnyBut.takeS (i := 5) (v := ?v13) rfl (by kernel_rfl) (Nat.le_of_eq (by kernel_rfl)) (by kernel_rfl) (by kernel_rfl) (fun _ _ _ h => h) (HS0.out) (Or.inl ⟨by kernel_rfl, ?hy13⟩) ?r13
  case hy13 =>
    intro w hSw
    try dsimp only at hSw
    go_simp
    first | (obtain ⟨y0, y1, y2, y3⟩ := hSw; go_simp) | skip
    try with_reducible rfl
  try simp only [Act.put, List.getElem_toArray, List.getElem_cons_succ, List.getElem_cons_zero, List.setIfInBounds_toArray, List.set_cons_zero, List.set_cons_succ]
  refine AnyBut.takeS (i := 6) (v := ?v14) rfl (by kernel_rfl) (Nat.le_of_eq (by kernel_rfl)) (by kernel_rfl) (by kernel_rfl) (fun _ _ _ h => h) (HS0.out) (Or.inl ⟨by kernel_rfl, ?hy14⟩) ?r14
  case hy14 =>
    intro w hSw
    try dsimp only at hSw
    go_simp
    first | (obtain ⟨y0, y1, y2, y3⟩ := hSw; go_simp) | skip
    try with_reducible rfl
  try simp only [Act.put, List.getElem_toArray, List.getElem_cons_succ, List.getElem_cons_zero, List.setIfInBounds_toArray, List.set_cons_zero, List.set_cons_succ]
  refine AnyBut.one (i := 3) (by kernel_rfl) rfl (fun K hK => ?_)
  go_simp
  go_wp2_with fail
  refine HC.out.mono ?_
  intro e w1 hq
  obtain ⟨L1, rfl, h1, k1⟩ := HH.out.prog hq
  have HH1 := Lib.hid h1
  have HB1 := Lib.hid (HB0.out.kept k1 HQ.out.1)
  have HS1 : Hid ((fun w' => w'.cell? ⟨q, 1, none⟩ = some (.string A) ∧ w'.cell? ⟨q, 2, none⟩ = some (.string B) ∧ w'.cell? ⟨q, 3, none⟩ = some (.int .i64 n) ∧ w'.cell? ⟨q, 5, none⟩ = some (.slice ka kn kc)) w1) := Lib.hid ⟨HB1.out.cell rfl, HB1.out.cell rfl, HB1.out.cell rfl, HB1.out.cell rfl⟩
  have HC2 := Lib.hid (refSync_any rb ao cp LR D' A w1 h1.r)
  rw [← HR.out.2] at HC2
  clear hq h1 k1
  go_wp2
  refine hK.out _ _ (HS1.out) ?_
  clear hK K
  try simp only [Act.put, List.getElem_toArray, List.getElem_cons_succ, List.getElem_cons_zero, List.setIfInBounds_toArray, List.set_cons_zero, List.set_cons_succ]
  refine AnyBut.one (i := 7) (by kernel_rfl) rfl (fun K hK => ?_)
  go_simp
  go_wp2_with fail
  refine HC2.out.mono ?_
  intro e w2 hq
  obtain ⟨ao2, cp2, LR2, rfl, h2, k2⟩ := HH1.out.doc hq
  have HF := Lib.hid h2
  have HB2 := Lib.hid (HB1.out.kept k2 (fun e => HQ.out.2 e))
  have HS2 : Hid ((fun w' => w'.cell? ⟨q, 1, none⟩ = some (.string A) ∧ w'.cell? ⟨q, 2, none⟩ = some (.string B) ∧ w'.cell? ⟨q, 3, none⟩ = some (.int .i64 n) ∧ w'.cell? ⟨q, 5, none⟩ = some (.slice ka kn kc)) w2) := Lib.hid ⟨HB2.out.cell rfl, HB2.out.cell rfl, HB2.out.cell rfl, HB2.out.cell rfl⟩
  clear hq h2 k2
  go_wp2
  refine hK.out _ _ (HS2.out) ?_
  clear hK K
  try simp only [Act.put, List.getElem_toArray, List.getElem_cons_succ, List.getElem_cons_zero, List.setIfInBounds_toArray, List.set_cons_zero, List.set_cons_succ]
  refine AnyBut.takeS (i := 8) (v := ?v15) rfl (by kernel_rfl) (Nat.le_of_eq (by kernel_rfl)) (by kernel_rfl) (by kernel_rfl) (fun _ _ _ h => h) (HS2.out) (Or.inl ⟨by kernel_rfl, ?hy15⟩) ?r15
  case hy15 =>
    intro w hSw
    try dsimp only at hSw
    go_simp
    first | (obtain ⟨y0, y1, y2, y3⟩ := hSw; go_simp) | skip
    try with_reducible rfl
  try simp only [Act.put, List.getElem_toArray, List.getElem_cons_succ, List.getElem_cons_zero, List.setIfInBounds_toArray, List.set_cons_zero, List.set_cons_succ]
  refine AnyBut.takeS (i := 9) (v := ?v16) rfl (by kernel_rfl) (Nat.le_of_eq (by kernel_rfl)) (by kernel_rfl) (by kernel_rfl) (fun _ _ _ h => h) (HS2.out) (Or.inl ⟨by kernel_rfl, ?hy16⟩) ?r16
  case hy16 =>
    intro w hSw
    try dsimp only at hSw
    go_simp
    first | (obtain ⟨y0, y1, y2, y3⟩ := hSw; go_simp) | skip
    try with_reducible rfl
  try simp only [Act.put, List.getElem_toArray, List.getElem_cons_succ, List.getElem_cons_zero, List.setIfInBounds_toArray, List.set_cons_zero, List.set_cons_succ]
  refine AnyBut.done (by kernel_rfl) ?_
  go_wp2
  go_ret
  rw [HX.out D, HX.out D', ← HR.out.1, ← HR.out.2]
  exact ⟨rfl, _, _, _, _, HF.out⟩

set_option maxRecDepth 100000 in
set_option maxHeartbeats 8000000 in
theorem do_cut (W : World) (db mb : Nat) (L : List (ByteArray × Fi)) (rb : Nat) (ao : Option Addr) (cp : Nat) (LR : List RF) (D D' : DA) (x : Ac) (w : World) (h : Half W w db mb L rb ao cp LR D D')
    (hx : x.Ok W) (hk : x.kind = 3) :
    Calls Try.prog 12 #[.pointer (some ⟨db, 0, none⟩), .pointer (some ⟨rb, 0, none⟩), .agg x.box] w (DoTo W db mb rb (actD D x) (actD D' x)) := by
  obtain ⟨k, A, B, n, z, ka, kc, keep⟩ := x
  have HX := Lib.hid (fun E : DA => show actD E ⟨k, A, B, n, z, ka, kc, keep⟩ = cutD E A n by unfold actD; rw [hk]; rfl)
  obtain ⟨kn, hkn⟩ : ∃ kn, kn = keep.length := ⟨_, rfl⟩
  have HS := Lib.hid (And.intro (show A.size ≤ maxLen by have := hx.A; unfold maxLen; dsimp only at this; omega) (And.intro (show B.size ≤ maxLen by have := hx.B; unfold maxLen; dsimp only at this; omega) (show B.size ≤ 100 from hx.B)))
  have HKP := Lib.hid (And.intro hx.at_ hx.keep)
  have HKN := Lib.hid hkn
  unfold Ac.box
  dsimp only at hk hx ⊢ HX HKP
  subst hk
  rw [← hkn] at HKP ⊢
  obtain ⟨q, hq⟩ : ∃ q, q = w.heap.size := ⟨_, rfl⟩
  obtain ⟨w0, hw0⟩ : ∃ w0, w0 = w.alloc (.cells #[.int .i64 3, .string A, .string B, .int .i64 n, .int .i64 z, .slice ka kn kc] 36) := ⟨_, rfl⟩
  have k0 : Kept (fun _ => False) w w0 := by rw [hw0]; exact (Kept.refl _ _).alloc _
  have b0 : BoxAt w0 q 36 #[.int .i64 3, .string A, .string B, .int .i64 n, .int .i64 z, .slice ka kn kc] := by rw [hw0, hq]; exact BoxAt.new w _ _
  have HQ := Lib.hid (h.old (q := q) (by omega))
  have HW := Lib.hid (And.intro hw0 hq)
  have kd : Kept (fun _ => False) w0 w0.drew := (Kept.refl _ _).drew
  have h0 := (h.on k0).on kd
  have HB0 := Lib.hid (b0.kept kd (fun x => x))
  have HH := Lib.hid h0
  have d0 : w0.cell? ⟨q, 0, none⟩ = some (.int .i64 3) := b0.cell rfl
  have HS0 : Hid ((fun w' => w'.cell? ⟨q, 1, none⟩ = some (.string A) ∧ w'.cell? ⟨q, 2, none⟩ = some (.string B) ∧ w'.cell? ⟨q, 3, none⟩ = some (.int .i64 n) ∧ w'.cell? ⟨q, 5, none⟩ = some (.slice ka kn kc)) w0.drew) := Lib.hid ⟨HB0.out.cell rfl, HB0.out.cell rfl, HB0.out.cell rfl, HB0.out.cell rfl⟩
  have HC := Lib.hid (dCut_any W.heap.size db mb L D A HS.out.1 n w0.drew HH.out.d)
  obtain ⟨r, hr⟩ : ∃ r, r = cutD D A n := ⟨_, rfl⟩
  obtain ⟨s, hs⟩ : ∃ s, s = cutD D' A n := ⟨_, rfl⟩
  rw [← hr] at HC
  have HR := Lib.hid (And.intro hr hs)
  clear hr hs
  clear hx hkn h hw0 hq k0 b0 h0 kd
  go_enter Try.func12, Try.ntmps12
  go_upto_region 1 with fail
  rw [← HW.out.1, ← HW.out.2]
  go_upto_region 9 with fail
  refine AnyBut.start (S := fun w' => w'.cell? ⟨q, 1, none⟩ = some (.string A) ∧ w'.cell? ⟨q, 2, none⟩ = some (.string B) ∧ w'.cell? ⟨q, 3, none⟩ = some (.int .i64 n) ∧ w'.cell? ⟨q, 5, none⟩ = some (.slice ka kn kc)) (k := 14) (by kernel_rfl) ?_
  refine AnyBut.takeS (i := 0) (v := ?v17) rfl (by kernel_rfl) (Nat.le_of_eq (by kernel_rfl)) (by kernel_rfl) (by kernel_rfl) (fun _ _ _ h => h) (HS0.out) (Or.inl ⟨by kernel_rfl, ?hy17⟩) ?r17
  case hy17 =>
    intro w hSw
    try dsimp only at hSw
    go_simp
    first | (obtain ⟨y0, y1, y2, y3⟩ := hSw; go_simp) | skip
    try with_reducible rfl
  try simp only [Act.put, List.getElem_toArray, List.getElem_cons_zero, List.setIfInBounds_toArray, List.set_cons_zero, List.set_cons_succ]
  refine AnyBut.takeS (i := 1) (v := ?v18) rfl (by kernel_rfl) (Nat.le_of_eq (by kernel_rfl)) (by kernel_rfl) (by kernel_rfl) (fun _ _ _ h => h) (HS0.out) (Or.inl ⟨by kernel_rfl, ?hy18⟩) ?r18
  case hy18 =>
    intro w hSw
    try dsimp only at hSw
    go_simp
    first | (obtain ⟨y0, y1, y2, y3⟩ := hSw; go_simp) | skip
    try with_reducible rfl
  try simp only [Act.put, List.getElem_toArray, List.getElem_cons_succ, List.getElem_cons_zero, List.setIfInBounds_toArray, List.set_cons_zero, List.set_cons_succ]
  refine AnyBut.takeS (i := 2) (v := ?v19) rfl (by kernel_rfl) (Nat.le_of_eq (by kernel_rfl)) (by kernel_rfl) (by kernel_rfl) (fun _ _ _ h => h) (HS0.out) (Or.inl ⟨by kernel_rfl, ?hy19⟩) ?r19
  case hy19 =>
    intro w hSw
    try dsimp only at hSw
    go_simp
    first | (obtain ⟨y0, y1, y2, y3⟩ := hSw; go_simp) | skip
    try with_reducible rfl
  try simp only [Act.put, List.getElem_toArray, List.getElem_cons_succ, List.getElem_cons_zero, List.setIfInBounds_toArray, List.set_cons_zero, List.set_cons_succ]
  refine AnyBut.takeS (i := 3) (v := ?v20) rfl (by kernel_rfl) (Nat.le_of_eq (by kernel_rfl)) (by kernel_rfl) (by kernel_rfl) (fun _ _ _ h => h) (HS0.out) (Or.inl ⟨by kernel_rfl, ?hy20⟩) ?r20
  case hy20 =>
    intro w hSw
    try dsimp only at hSw
    go_simp
    first | (obtain ⟨y0, y1, y2, y3⟩ := hSw; go_simp) | skip
    try with_reducible rfl
  try simp only [Act.put, List.getElem_toArray, List.getElem_cons_succ, List.getElem_cons_zero, List.setIfInBounds_toArray, List.set_cons_zero, List.set_cons_succ]
  refine AnyBut.takeS (i := 4) (v := ?v21) rfl (by kernel_rfl) (Nat.le_of_eq (by kernel_rfl)) (by kernel_rfl) (by kernel_rfl) (fun _ _ _ h => h) (HS0.out) (Or.inl ⟨by kernel_rfl, ?hy21⟩) ?r21
  case hy21 =>
    intro w hSw
    try dsimp only at hSw
    go_simp
    first | (obtain ⟨y0, y1, y2, y3⟩ := hSw; go_simp) | skip
    try with_reducible rfl
  try simp only [Act.put, List.getElem_toArray, List.getElem_cons_succ, List.getElem_cons_zero, List.setIfInBounds_toArray, List.set_cons_zero, List.set_cons_succ]
  refine AnyBut.takeS (i := 6) (v := ?v22) rfl (by kernel_rfl) (Nat.le_of_eq (by kernel_rfl)) (by kernel_rfl) (by kernel_rfl) (fun _ _ _ h => h) (HS0.out) (Or.inl ⟨by kernel_rfl, ?hy22⟩) ?r22
  case hy22 =>
    intro w hSw
    try dsimp only at hSw
    go_simp
    first | (obtain ⟨y0, y1, y2, y3⟩ := hSw; go_simp) | skip
    try with_reducible rfl
  try simp only [Act.put, List.getElem_toArray, List.getElem_cons_succ, List.getElem_cons_zero, List.setIfInBounds_toArray, List.set_cons_zero, List.set_cons_succ]
  refine AnyBut.takeS (i := 7) (v := ?v23) rfl (by kernel_rfl) (Nat.le_of_eq (by kernel_rfl)) (by kernel_rfl) (by kernel_rfl) (fun _ _ _ h => h) (HS0.out) (Or.inl ⟨by kernel_rfl, ?hy23⟩) ?r23
  case hy23 =>
    intro w hSw
    try dsimp only at hSw
    go_simp
    first | (obtain ⟨y0, y1, y2, y3⟩ := hSw; go_simp) | skip
    try with_reducible rfl
  try simp only [Act.put, List.getElem_toArray, List.getElem_cons_succ, List.getElem_cons_zero, List.setIfInBounds_toArray, List.set_cons_zero, List.set_cons_succ]
  refine AnyBut.takeS (i := 8) (v := ?v24) rfl (by kernel_rfl) (Nat.le_of_eq (by kernel_rfl)) (by kernel_rfl) (by kernel_rfl) (fun _ _ _ h => h) (HS0.out) (Or.inl ⟨by kernel_rfl, ?hy24⟩) ?r24
  case hy24 =>
    intro w hSw
    try dsimp only at hSw
    go_simp
    first | (obtain ⟨y0, y1, y2, y3⟩ := hSw; go_simp) | skip
    try with_reducible rfl
  try simp only [Act.put, List.getElem_toArray, List.getElem_cons_succ, List.getElem_cons_zero, List.setIfInBounds_toArray, List.set_cons_zero, List.set_cons_succ]
  refine AnyBut.takeS (i := 9) (v := ?v25) rfl (by kernel_rfl) (Nat.le_of_eq (by kernel_rfl)) (by kernel_rfl) (by kernel_rfl) (fun _ _ _ h => h) (HS0.out) (Or.inl ⟨by kernel_rfl, ?hy25⟩) ?r25
  case hy25 =>
    intro w hSw
    try dsimp only at hSw
    go_simp
    first | (obtain ⟨y0, y1, y2, y3⟩ := hSw; go_simp) | skip
    try with_reducible rfl
  try simp only [Act.put, List.getElem_toArray, List.getElem_cons_succ, List.getElem_cons_zero, List.setIfInBounds_toArray, List.set_cons_zero, List.set_cons_succ]
  refine AnyBut.takeS (i := 10) (v := ?v26) rfl (by kernel_rfl) (Nat.le_of_eq (by kernel_rfl)) (by kernel_rfl) (by kernel_rfl) (fun _ _ _ h => h) (HS0.out) (Or.inl ⟨by kernel_rfl, ?hy26⟩) ?r26
  case hy26 =>
    intro w hSw
    try dsimp only at hSw
    go_simp
    first | (obtain ⟨y0, y1, y2, y3⟩ := hSw; go_simp) | skip
    try with_reducible rfl
  try simp only [Act.put, List.getElem_toArray, List.getElem_cons_succ, List.getElem_cons_zero, List.setIfInBounds_toArray, List.set_cons_zero, List.set_cons_succ]
  refine AnyBut.one (i := 5) (by kernel_rfl) rfl (fun K hK => ?_)
  go_simp
  go_wp2_with fail
  refine HC.out.mono ?_
  intro e w1 hq
  obtain ⟨L1, rfl, h1, k1⟩ := HH.out.prog hq
  have HH1 := Lib.hid h1
  have HB1 := Lib.hid (HB0.out.kept k1 HQ.out.1)
  have HS1 : Hid ((fun w' => w'.cell? ⟨q, 1, none⟩ = some (.string A) ∧ w'.cell? ⟨q, 2, none⟩ = some (.string B) ∧ w'.cell? ⟨q, 3, none⟩ = some (.int .i64 n) ∧ w'.cell? ⟨q, 5, none⟩ = some (.slice ka kn kc)) w1) := Lib.hid ⟨HB1.out.cell rfl, HB1.out.cell rfl, HB1.out.cell rfl, HB1.out.cell rfl⟩
  have HC2 := Lib.hid (refCut_any rb ao cp LR D' A n w1 h1.r)
  rw [← HR.out.2] at HC2
  clear hq h1 k1
  go_wp2
  refine hK.out _ _ (HS1.out) ?_
  clear hK K
  try simp only [Act.put, List.getElem_toArray, List.getElem_cons_succ, List.getElem_cons_zero, List.setIfInBounds_toArray, List.set_cons_zero, List.set_cons_succ]
  refine AnyBut.one (i := 11) (by kernel_rfl) rfl (fun K hK => ?_)
  go_simp
  go_wp2_with fail
  refine HC2.out.mono ?_
  intro e w2 hq
  obtain ⟨ao2, cp2, LR2, rfl, h2, k2⟩ := HH1.out.doc hq
  have HF := Lib.hid h2
  have HB2 := Lib.hid (HB1.out.kept k2 (fun e => HQ.out.2 e))
  have HS2 : Hid ((fun w' => w'.cell? ⟨q, 1, none⟩ = some (.string A) ∧ w'.cell? ⟨q, 2, none⟩ = some (.string B) ∧ w'.cell? ⟨q, 3, none⟩ = some (.int .i64 n) ∧ w'.cell? ⟨q, 5, none⟩ = some (.slice ka kn kc)) w2) := Lib.hid ⟨HB2.out.cell rfl, HB2.out.cell rfl, HB2.out.cell rfl, HB2.out.cell rfl⟩
  clear hq h2 k2
  go_wp2
  refine hK.out _ _ (HS2.out) ?_
  clear hK K
  try simp only [Act.put, List.getElem_toArray, List.getElem_cons_succ, List.getElem_cons_zero, List.setIfInBounds_toArray, List.set_cons_zero, List.set_cons_succ]
  refine AnyBut.takeS (i := 12) (v := ?v27) rfl (by kernel_rfl) (Nat.le_of_eq (by kernel_rfl)) (by kernel_rfl) (by kernel_rfl) (fun _ _ _ h => h) (HS2.out) (Or.inl ⟨by kernel_rfl, ?hy27⟩) ?r27
  case hy27 =>
    intro w hSw
    try dsimp only at hSw
    go_simp
    first | (obtain ⟨y0, y1, y2, y3⟩ := hSw; go_simp) | skip
    try with_reducible rfl
  try simp only [Act.put, List.getElem_toArray, List.getElem_cons_succ, List.getElem_cons_zero, List.setIfInBounds_toArray, List.set_cons_zero, List.set_cons_succ]
  refine AnyBut.takeS (i := 13) (v := ?v28) rfl (by kernel_rfl) (Nat.le_of_eq (by kernel_rfl)) (by kernel_rfl) (by kernel_rfl) (fun _ _ _ h => h) (HS2.out) (Or.inl ⟨by kernel_rfl, ?hy28⟩) ?r28
  case hy28 =>
    intro w hSw
    try dsimp only at hSw
    go_simp
    first | (obtain ⟨y0, y1, y2, y3⟩ := hSw; go_simp) | skip
    try with_reducible rfl
  try simp only [Act.put, List.getElem_toArray, List.getElem_cons_succ, List.getElem_cons_zero, List.setIfInBounds_toArray, List.set_cons_zero, List.set_cons_succ]
  refine AnyBut.done (by kernel_rfl) ?_
  go_wp2
  go_ret
  rw [HX.out D, HX.out D', ← HR.out.1, ← HR.out.2]
  exact ⟨rfl, _, _, _, _, HF.out⟩

set_option maxRecDepth 100000 in
set_option maxHeartbeats 8000000 in
theorem do_rename (W : World) (db mb : Nat) (L : List (ByteArray × Fi)) (rb : Nat) (ao : Option Addr) (cp : Nat) (LR : List RF) (D D' : DA) (x : Ac) (w : World) (h : Half W w db mb L rb ao cp LR D D')
    (hx : x.Ok W) (hk : x.kind = 4) :
    Calls Try.prog 12 #[.pointer (some ⟨db, 0, none⟩), .pointer (some ⟨rb, 0, none⟩), .agg x.box] w (DoTo W db mb rb (actD D x) (actD D' x)) := by
  obtain ⟨k, A, B, n, z, ka, kc, keep⟩ := x
  have HX := Lib.hid (fun E : DA => show actD E ⟨k, A, B, n, z, ka, kc, keep⟩ = renameD E A B by unfold actD; rw [hk]; rfl)
  obtain ⟨kn, hkn⟩ : ∃ kn, kn = keep.length := ⟨_, rfl⟩
  have HS := Lib.hid (And.intro (show A.size ≤ maxLen by have := hx.A; unfold maxLen; dsimp only at this; omega) (And.intro (show B.size ≤ maxLen by have := hx.B; unfold maxLen; dsimp only at this; omega) (show B.size ≤ 100 from hx.B)))
  have HKP := Lib.hid (And.intro hx.at_ hx.keep)
  have HKN := Lib.hid hkn
  unfold Ac.box
  dsimp only at hk hx ⊢ HX HKP
  subst hk
  rw [← hkn] at HKP ⊢
  obtain ⟨q, hq⟩ : ∃ q, q = w.heap.size := ⟨_, rfl⟩
  obtain ⟨w0, hw0⟩ : ∃ w0, w0 = w.alloc (.cells #[.int .i64 4, .string A, .string B, .int .i64 n, .int .i64 z, .slice ka kn kc] 36) := ⟨_, rfl⟩
  have k0 : Kept (fun _ => False) w w0 := by rw [hw0]; exact (Kept.refl _ _).alloc _
  have b0 : BoxAt w0 q 36 #[.int .i64 4, .string A, .string B, .int .i64 n, .int .i64 z, .slice ka kn kc] := by rw [hw0, hq]; exact BoxAt.new w _ _
  have HQ := Lib.hid (h.old (q := q) (by omega))
  have HW := Lib.hid (And.intro hw0 hq)
  have kd : Kept (fun _ => False) w0 w0.drew := (Kept.refl _ _).drew
  have h0 := (h.on k0).on kd
  have HB0 := Lib.hid (b0.kept kd (fun x => x))
  have HH := Lib.hid h0
  have d0 : w0.cell? ⟨q, 0, none⟩ = some (.int .i64 4) := b0.cell rfl
  have HS0 : Hid ((fun w' => w'.cell? ⟨q, 1, none⟩ = some (.string A) ∧ w'.cell? ⟨q, 2, none⟩ = some (.string B) ∧ w'.cell? ⟨q, 3, none⟩ = some (.int .i64 n) ∧ w'.cell? ⟨q, 5, none⟩ = some (.slice ka kn kc)) w0.drew) := Lib.hid ⟨HB0.out.cell rfl, HB0.out.cell rfl, HB0.out.cell rfl, HB0.out.cell rfl⟩
  have HC := Lib.hid (dRename_any W.heap.size db mb L D A B HS.out.1 HS.out.2.1 w0.drew HH.out.d)
  obtain ⟨r, hr⟩ : ∃ r, r = renameD D A B := ⟨_, rfl⟩
  obtain ⟨s, hs⟩ : ∃ s, s = renameD D' A B := ⟨_, rfl⟩
  rw [← hr] at HC
  have HR := Lib.hid (And.intro hr hs)
  clear hr hs
  clear hx hkn h hw0 hq k0 b0 h0 kd
  go_enter Try.func12, Try.ntmps12
  go_upto_region 1 with fail
  rw [← HW.out.1, ← HW.out.2]
  go_upto_region 11 with fail
  refine AnyBut.start (S := fun w' => w'.cell? ⟨q, 1, none⟩ = some (.string A) ∧ w'.cell? ⟨q, 2, none⟩ = some (.string B) ∧ w'.cell? ⟨q, 3, none⟩ = some (.int .i64 n) ∧ w'.cell? ⟨q, 5, none⟩ = some (.slice ka kn kc)) (k := 14) (by kernel_rfl) ?_
  refine AnyBut.takeS (i := 0) (v := ?v29) rfl (by kernel_rfl) (Nat.le_of_eq (by kernel_rfl)) (by kernel_rfl) (by kernel_rfl) (fun _ _ _ h => h) (HS0.out) (Or.inl ⟨by kernel_rfl, ?hy29⟩) ?r29
  case hy29 =>
    intro w hSw
    try dsimp only at hSw
    go_simp
    first | (obtain ⟨y0, y1, y2, y3⟩ := hSw; go_simp) | skip
    try with_reducible rfl
  try simp only [Act.put, List.getElem_toArray, List.getElem_cons_zero, List.setIfInBounds_toArray, List.set_cons_zero, List.set_cons_succ]
  refine AnyBut.takeS (i := 1) (v := ?v30) rfl (by kernel_rfl) (Nat.le_of_eq (by kernel_rfl)) (by kernel_rfl) (by kernel_rfl) (fun _ _ _ h => h) (HS0.out) (Or.inl ⟨by kernel_rfl, ?hy30⟩) ?r30
  case hy30 =>
    intro w hSw
    try dsimp only at hSw
    go_simp
    first | (obtain ⟨y0, y1, y2, y3⟩ := hSw; go_simp) | skip
    try with_reducible rfl
  try simp only [Act.put, List.getElem_toArray, List.getElem_cons_succ, List.getElem_cons_zero, List.setIfInBounds_toArray, List.set_cons_zero, List.set_cons_succ]
  refine AnyBut.takeS (i := 2) (v := ?v31) rfl (by kernel_rfl) (Nat.le_of_eq (by kernel_rfl)) (by kernel_rfl) (by kernel_rfl) (fun _ _ _ h => h) (HS0.out) (Or.inl ⟨by kernel_rfl, ?hy31⟩) ?r31
  case hy31 =>
    intro w hSw
    try dsimp only at hSw
    go_simp
    first | (obtain ⟨y0, y1, y2, y3⟩ := hSw; go_simp) | skip
    try with_reducible rfl
  try simp only [Act.put, List.getElem_toArray, List.getElem_cons_succ, List.getElem_cons_zero, List.setIfInBounds_toArray, List.set_cons_zero, List.set_cons_succ]
  refine AnyBut.takeS (i := 3) (v := ?v32) rfl (by kernel_rfl) (Nat.le_of_eq (by kernel_rfl)) (by kernel_rfl) (by kernel_rfl) (fun _ _ _ h => h) (HS0.out) (Or.inl ⟨by kernel_rfl, ?hy32⟩) ?r32
  case hy32 =>
    intro w hSw
    try dsimp only at hSw
    go_simp
    first | (obtain ⟨y0, y1, y2, y3⟩ := hSw; go_simp) | skip
    try with_reducible rfl
  try simp only [Act.put, List.getElem_toArray, List.getElem_cons_succ, List.getElem_cons_zero, List.setIfInBounds_toArray, List.set_cons_zero, List.set_cons_succ]
  refine AnyBut.takeS (i := 4) (v := ?v33) rfl (by kernel_rfl) (Nat.le_of_eq (by kernel_rfl)) (by kernel_rfl) (by kernel_rfl) (fun _ _ _ h => h) (HS0.out) (Or.inl ⟨by kernel_rfl, ?hy33⟩) ?r33
  case hy33 =>
    intro w hSw
    try dsimp only at hSw
    go_simp
    first | (obtain ⟨y0, y1, y2, y3⟩ := hSw; go_simp) | skip
    try with_reducible rfl
  try simp only [Act.put, List.getElem_toArray, List.getElem_cons_succ, List.getElem_cons_zero, List.setIfInBounds_toArray, List.set_cons_zero, List.set_cons_succ]
  refine AnyBut.takeS (i := 6) (v := ?v34) rfl (by kernel_rfl) (Nat.le_of_eq (by kernel_rfl)) (by kernel_rfl) (by kernel_rfl) (fun _ _ _ h => h) (HS0.out) (Or.inl ⟨by kernel_rfl, ?hy34⟩) ?r34
  case hy34 =>
    intro w hSw
    try dsimp only at hSw
    go_simp
    first | (obtain ⟨y0, y1, y2, y3⟩ := hSw; go_simp) | skip
    try with_reducible rfl
  try simp only [Act.put, List.getElem_toArray, List.getElem_cons_succ, List.getElem_cons_zero, List.setIfInBounds_toArray, List.set_cons_zero, List.set_cons_succ]
  refine AnyBut.takeS (i := 7) (v := ?v35) rfl (by kernel_rfl) (Nat.le_of_eq (by kernel_rfl)) (by kernel_rfl) (by kernel_rfl) (fun _ _ _ h => h) (HS0.out) (Or.inl ⟨by kernel_rfl, ?hy35⟩) ?r35
  case hy35 =>
    intro w hSw
    try dsimp only at hSw
    go_simp
    first | (obtain ⟨y0, y1, y2, y3⟩ := hSw; go_simp) | skip
    try with_reducible rfl
  try simp only [Act.put, List.getElem_toArray, List.getElem_cons_succ, List.getElem_cons_zero, List.setIfInBounds_toArray, List.set_cons_zero, List.set_cons_succ]
  refine AnyBut.takeS (i := 8) (v := ?v36) rfl (by kernel_rfl) (Nat.le_of_eq (by kernel_rfl)) (by kernel_rfl) (by kernel_rfl) (fun _ _ _ h => h) (HS0.out) (Or.inl ⟨by kernel_rfl, ?hy36⟩) ?r36
  case hy36 =>
    intro w hSw
    try dsimp only at hSw
    go_simp
    first | (obtain ⟨y0, y1, y2, y3⟩ := hSw; go_simp) | skip
    try with_reducible rfl
  try simp only [Act.put, List.getElem_toArray, List.getElem_cons_succ, List.getElem_cons_zero, List.setIfInBounds_toArray, List.set_cons_zero, List.set_cons_succ]
  refine AnyBut.takeS (i := 9) (v := ?v37) rfl (by kernel_rfl) (Nat.le_of_eq (by kernel_rfl)) (by kernel_rfl) (by kernel_rfl) (fun _ _ _ h => h) (HS0.out) (Or.inl ⟨by kernel_rfl, ?hy37⟩) ?r37
  case hy37 =>
    intro w hSw
    try dsimp only at hSw
    go_simp
    first | (obtain ⟨y0, y1, y2, y3⟩ := hSw; go_simp) | skip
    try with_reducible rfl
  try simp only [Act.put, List.getElem_toArray, List.getElem_cons_succ, List.getElem_cons_zero, List.setIfInBounds_toArray, List.set_cons_zero, List.set_cons_succ]
  refine AnyBut.takeS (i := 10) (v := ?v38) rfl (by kernel_rfl) (Nat.le_of_eq (by kernel_rfl)) (by kernel_rfl) (by kernel_rfl) (fun _ _ _ h => h) (HS0.out) (Or.inl ⟨by kernel_rfl, ?hy38⟩) ?r38
  case hy38 =>
    intro w hSw
    try dsimp only at hSw
    go_simp
    first | (obtain ⟨y0, y1, y2, y3⟩ := hSw; go_simp) | skip
    try with_reducible rfl
  try simp only [Act.put, List.getElem_toArray, List.getElem_cons_succ, List.getElem_cons_zero, List.setIfInBounds_toArray, List.set_cons_zero, List.set_cons_succ]
  refine AnyBut.one (i := 5) (by kernel_rfl) rfl (fun K hK => ?_)
  go_simp
  go_wp2_with fail
  refine HC.out.mono ?_
  intro e w1 hq
  obtain ⟨L1, rfl, h1, k1⟩ := HH.out.prog hq
  have HH1 := Lib.hid h1
  have HB1 := Lib.hid (HB0.out.kept k1 HQ.out.1)
  have HS1 : Hid ((fun w' => w'.cell? ⟨q, 1, none⟩ = some (.string A) ∧ w'.cell? ⟨q, 2, none⟩ = some (.string B) ∧ w'.cell? ⟨q, 3, none⟩ = some (.int .i64 n) ∧ w'.cell? ⟨q, 5, none⟩ = some (.slice ka kn kc)) w1) := Lib.hid ⟨HB1.out.cell rfl, HB1.out.cell rfl, HB1.out.cell rfl, HB1.out.cell rfl⟩
  have HC2 := Lib.hid (refRename_any rb ao cp LR D' A B HS.out.2.1 w1 h1.r)
  rw [← HR.out.2] at HC2
  clear hq h1 k1
  go_wp2
  refine hK.out _ _ (HS1.out) ?_
  clear hK K
  try simp only [Act.put, List.getElem_toArray, List.getElem_cons_succ, List.getElem_cons_zero, List.setIfInBounds_toArray, List.set_cons_zero, List.set_cons_succ]
  refine AnyBut.one (i := 11) (by kernel_rfl) rfl (fun K hK => ?_)
  go_simp
  go_wp2_with fail
  refine HC2.out.mono ?_
  intro e w2 hq
  obtain ⟨ao2, cp2, LR2, rfl, h2, k2⟩ := HH1.out.doc hq
  have HF := Lib.hid h2
  have HB2 := Lib.hid (HB1.out.kept k2 (fun e => HQ.out.2 e))
  have HS2 : Hid ((fun w' => w'.cell? ⟨q, 1, none⟩ = some (.string A) ∧ w'.cell? ⟨q, 2, none⟩ = some (.string B) ∧ w'.cell? ⟨q, 3, none⟩ = some (.int .i64 n) ∧ w'.cell? ⟨q, 5, none⟩ = some (.slice ka kn kc)) w2) := Lib.hid ⟨HB2.out.cell rfl, HB2.out.cell rfl, HB2.out.cell rfl, HB2.out.cell rfl⟩
  clear hq h2 k2
  go_wp2
  refine hK.out _ _ (HS2.out) ?_
  clear hK K
  try simp only [Act.put, List.getElem_toArray, List.getElem_cons_succ, List.getElem_cons_zero, List.setIfInBounds_toArray, List.set_cons_zero, List.set_cons_succ]
  refine AnyBut.takeS (i := 12) (v := ?v39) rfl (by kernel_rfl) (Nat.le_of_eq (by kernel_rfl)) (by kernel_rfl) (by kernel_rfl) (fun _ _ _ h => h) (HS2.out) (Or.inl ⟨by kernel_rfl, ?hy39⟩) ?r39
  case hy39 =>
    intro w hSw
    try dsimp only at hSw
    go_simp
    first | (obtain ⟨y0, y1, y2, y3⟩ := hSw; go_simp) | skip
    try with_reducible rfl
  try simp only [Act.put, List.getElem_toArray, List.getElem_cons_succ, List.getElem_cons_zero, List.setIfInBounds_toArray, List.set_cons_zero, List.set_cons_succ]
  refine AnyBut.takeS (i := 13) (v := ?v40) rfl (by kernel_rfl) (Nat.le_of_eq (by kernel_rfl)) (by kernel_rfl) (by kernel_rfl) (fun _ _ _ h => h) (HS2.out) (Or.inl ⟨by kernel_rfl, ?hy40⟩) ?r40
  case hy40 =>
    intro w hSw
    try dsimp only at hSw
    go_simp
    first | (obtain ⟨y0, y1, y2, y3⟩ := hSw; go_simp) | skip
    try with_reducible rfl
  try simp only [Act.put, List.getElem_toArray, List.getElem_cons_succ, List.getElem_cons_zero, List.setIfInBounds_toArray, List.set_cons_zero, List.set_cons_succ]
  refine AnyBut.done (by kernel_rfl) ?_
  go_wp2
  go_ret
  rw [HX.out D, HX.out D', ← HR.out.1, ← HR.out.2]
  exact ⟨rfl, _, _, _, _, HF.out⟩

set_option maxRecDepth 100000 in
set_option maxHeartbeats 8000000 in
theorem do_remove (W : World) (db mb : Nat) (L : List (ByteArray × Fi)) (rb : Nat) (ao : Option Addr) (cp : Nat) (LR : List RF) (D D' : DA) (x : Ac) (w : World) (h : Half W w db mb L rb ao cp LR D D')
    (hx : x.Ok W) (hk : x.kind = 5) :
    Calls Try.prog 12 #[.pointer (some ⟨db, 0, none⟩), .pointer (some ⟨rb, 0, none⟩), .agg x.box] w (DoTo W db mb rb (actD D x) (actD D' x)) := by
  obtain ⟨k, A, B, n, z, ka, kc, keep⟩ := x
  have HX := Lib.hid (fun E : DA => show actD E ⟨k, A, B, n, z, ka, kc, keep⟩ = removeD E A by unfold actD; rw [hk]; rfl)
  obtain ⟨kn, hkn⟩ : ∃ kn, kn = keep.length := ⟨_, rfl⟩
  have HS := Lib.hid (And.intro (show A.size ≤ maxLen by have := hx.A; unfold maxLen; dsimp only at this; omega) (And.intro (show B.size ≤ maxLen by have := hx.B; unfold maxLen; dsimp only at this; omega) (show B.size ≤ 100 from hx.B)))
  have HKP := Lib.hid (And.intro hx.at_ hx.keep)
  have HKN := Lib.hid hkn
  unfold Ac.box
  dsimp only at hk hx ⊢ HX HKP
  subst hk
  rw [← hkn] at HKP ⊢
  obtain ⟨q, hq⟩ : ∃ q, q = w.heap.size := ⟨_, rfl⟩
  obtain ⟨w0, hw0⟩ : ∃ w0, w0 = w.alloc (.cells #[.int .i64 5, .string A, .string B, .int .i64 n, .int .i64 z, .slice ka kn kc] 36) := ⟨_, rfl⟩
  have k0 : Kept (fun _ => False) w w0 := by rw [hw0]; exact (Kept.refl _ _).alloc _
  have b0 : BoxAt w0 q 36 #[.int .i64 5, .string A, .string B, .int .i64 n, .int .i64 z, .slice ka kn kc] := by rw [hw0, hq]; exact BoxAt.new w _ _
  have HQ := Lib.hid (h.old (q := q) (by omega))
  have HW := Lib.hid (And.intro hw0 hq)
  have kd : Kept (fun _ => False) w0 w0.drew := (Kept.refl _ _).drew
  have h0 := (h.on k0).on kd
  have HB0 := Lib.hid (b0.kept kd (fun x => x))
  have HH := Lib.hid h0
  have d0 : w0.cell? ⟨q, 0, none⟩ = some (.int .i64 5) := b0.cell rfl
  have HS0 : Hid ((fun w' => w'.cell? ⟨q, 1, none⟩ = some (.string A) ∧ w'.cell? ⟨q, 2, none⟩ = some (.string B) ∧ w'.cell? ⟨q, 3, none⟩ = some (.int .i64 n) ∧ w'.cell? ⟨q, 5, none⟩ = some (.slice ka kn kc)) w0.drew) := Lib.hid ⟨HB0.out.cell rfl, HB0.out.cell rfl, HB0.out.cell rfl, HB0.out.cell rfl⟩
  have HC := Lib.hid (dRemove_any W.heap.size db mb L D A HS.out.1 w0.drew HH.out.d)
  obtain ⟨r, hr⟩ : ∃ r, r = removeD D A := ⟨_, rfl⟩
  obtain ⟨s, hs⟩ : ∃ s, s = removeD D' A := ⟨_, rfl⟩
  rw [← hr] at HC
  have HR := Lib.hid (And.intro hr hs)
  clear hr hs
  clear hx hkn h hw0 hq k0 b0 h0 kd
  go_enter Try.func12, Try.ntmps12
  go_upto_region 1 with fail
  rw [← HW.out.1, ← HW.out.2]
  go_upto_region 13 with fail
  refine AnyBut.start (S := fun w' => w'.cell? ⟨q, 1, none⟩ = some (.string A) ∧ w'.cell? ⟨q, 2, none⟩ = some (.string B) ∧ w'.cell? ⟨q, 3, none⟩ = some (.int .i64 n) ∧ w'.cell? ⟨q, 5, none⟩ = some (.slice ka kn kc)) (k := 10) (by kernel_rfl) ?_
  refine AnyBut.takeS (i := 0) (v := ?v41) rfl (by kernel_rfl) (Nat.le_of_eq (by kernel_rfl)) (by kernel_rfl) (by kernel_rfl) (fun _ _ _ h => h) (HS0.out) (Or.inl ⟨by kernel_rfl, ?hy41⟩) ?r41
  case hy41 =>
    intro w hSw
    try dsimp only at hSw
    go_simp
    first | (obtain ⟨y0, y1, y2, y3⟩ := hSw; go_simp) | skip
    try with_reducible rfl
  try simp only [Act.put, List.getElem_toArray, List.getElem_cons_zero, List.setIfInBounds_toArray, List.set_cons_zero, List.set_cons_succ]
  refine AnyBut.takeS (i := 1) (v := ?v42) rfl (by kernel_rfl) (Nat.le_of_eq (by kernel_rfl)) (by kernel_rfl) (by kernel_rfl) (fun _ _ _ h => h) (HS0.out) (Or.inl ⟨by kernel_rfl, ?hy42⟩) ?r42
  case hy42 =>
    intro w hSw
    try dsimp only at hSw
    go_simp
    first | (obtain ⟨y0, y1, y2, y3⟩ := hSw; go_simp) | skip
    try with_reducible rfl
  try simp only [Act.put, List.getElem_toArray, List.getElem_cons_succ, List.getElem_cons_zero, List.setIfInBounds_toArray, List.set_cons_zero, List.set_cons_succ]
  refine AnyBut.takeS (i := 2) (v := ?v43) rfl (by kernel_rfl) (Nat.le_of_eq (by kernel_rfl)) (by kernel_rfl) (by kernel_rfl) (fun _ _ _ h => h) (HS0.out) (Or.inl ⟨by kernel_rfl, ?hy43⟩) ?r43
  case hy43 =>
    intro w hSw
    try dsimp only at hSw
    go_simp
    first | (obtain ⟨y0, y1, y2, y3⟩ := hSw; go_simp) | skip
    try with_reducible rfl
  try simp only [Act.put, List.getElem_toArray, List.getElem_cons_succ, List.getElem_cons_zero, List.setIfInBounds_toArray, List.set_cons_zero, List.set_cons_succ]
  refine AnyBut.takeS (i := 4) (v := ?v44) rfl (by kernel_rfl) (Nat.le_of_eq (by kernel_rfl)) (by kernel_rfl) (by kernel_rfl) (fun _ _ _ h => h) (HS0.out) (Or.inl ⟨by kernel_rfl, ?hy44⟩) ?r44
  case hy44 =>
    intro w hSw
    try dsimp only at hSw
    go_simp
    first | (obtain ⟨y0, y1, y2, y3⟩ := hSw; go_simp) | skip
    try with_reducible rfl
  try simp only [Act.put, List.getElem_toArray, List.getElem_cons_succ, List.getElem_cons_zero, List.setIfInBounds_toArray, List.set_cons_zero, List.set_cons_succ]
  refine AnyBut.takeS (i := 5) (v := ?v45) rfl (by kernel_rfl) (Nat.le_of_eq (by kernel_rfl)) (by kernel_rfl) (by kernel_rfl) (fun _ _ _ h => h) (HS0.out) (Or.inl ⟨by kernel_rfl, ?hy45⟩) ?r45
  case hy45 =>
    intro w hSw
    try dsimp only at hSw
    go_simp
    first | (obtain ⟨y0, y1, y2, y3⟩ := hSw; go_simp) | skip
    try with_reducible rfl
  try simp only [Act.put, List.getElem_toArray, List.getElem_cons_succ, List.getElem_cons_zero, List.setIfInBounds_toArray, List.set_cons_zero, List.set_cons_succ]
  refine AnyBut.takeS (i := 6) (v := ?v46) rfl (by kernel_rfl) (Nat.le_of_eq (by kernel_rfl)) (by kernel_rfl) (by kernel_rfl) (fun _ _ _ h => h) (HS0.out) (Or.inl ⟨by kernel_rfl, ?hy46⟩) ?r46
  case hy46 =>
    intro w hSw
    try dsimp only at hSw
    go_simp
    first | (obtain ⟨y0, y1, y2, y3⟩ := hSw; go_simp) | skip
    try with_reducible rfl
  try simp only [Act.put, List.getElem_toArray, List.getElem_cons_succ, List.getElem_cons_zero, List.setIfInBounds_toArray, List.set_cons_zero, List.set_cons_succ]
  refine AnyBut.one (i := 3) (by kernel_rfl) rfl (fun K hK => ?_)
  go_simp
  go_wp2_with fail
  refine HC.out.mono ?_
  intro e w1 hq
  obtain ⟨L1, rfl, h1, k1⟩ := HH.out.prog hq
  have HH1 := Lib.hid h1
  have HB1 := Lib.hid (HB0.out.kept k1 HQ.out.1)
  have HS1 : Hid ((fun w' => w'.cell? ⟨q, 1, none⟩ = some (.string A) ∧ w'.cell? ⟨q, 2, none⟩ = some (.string B) ∧ w'.cell? ⟨q, 3, none⟩ = some (.int .i64 n) ∧ w'.cell? ⟨q, 5, none⟩ = some (.slice ka kn kc)) w1) := Lib.hid ⟨HB1.out.cell rfl, HB1.out.cell rfl, HB1.out.cell rfl, HB1.out.cell rfl⟩
  have HC2 := Lib.hid (refRemove_any rb ao cp LR D' A w1 h1.r)
  rw [← HR.out.2] at HC2
  clear hq h1 k1
  go_wp2
  refine hK.out _ _ (HS1.out) ?_
  clear hK K
  try simp only [Act.put, List.getElem_toArray, List.getElem_cons_succ, List.getElem_cons_zero, List.setIfInBounds_toArray, List.set_cons_zero, List.set_cons_succ]
  refine AnyBut.one (i := 7) (by kernel_rfl) rfl (fun K hK => ?_)
  go_simp
  go_wp2_with fail
  refine HC2.out.mono ?_
  intro e w2 hq
  obtain ⟨ao2, cp2, LR2, rfl, h2, k2⟩ := HH1.out.doc hq
  have HF := Lib.hid h2
  have HB2 := Lib.hid (HB1.out.kept k2 (fun e => HQ.out.2 e))
  have HS2 : Hid ((fun w' => w'.cell? ⟨q, 1, none⟩ = some (.string A) ∧ w'.cell? ⟨q, 2, none⟩ = some (.string B) ∧ w'.cell? ⟨q, 3, none⟩ = some (.int .i64 n) ∧ w'.cell? ⟨q, 5, none⟩ = some (.slice ka kn kc)) w2) := Lib.hid ⟨HB2.out.cell rfl, HB2.out.cell rfl, HB2.out.cell rfl, HB2.out.cell rfl⟩
  clear hq h2 k2
  go_wp2
  refine hK.out _ _ (HS2.out) ?_
  clear hK K
  try simp only [Act.put, List.getElem_toArray, List.getElem_cons_succ, List.getElem_cons_zero, List.setIfInBounds_toArray, List.set_cons_zero, List.set_cons_succ]
  refine AnyBut.takeS (i := 8) (v := ?v47) rfl (by kernel_rfl) (Nat.le_of_eq (by kernel_rfl)) (by kernel_rfl) (by kernel_rfl) (fun _ _ _ h => h) (HS2.out) (Or.inl ⟨by kernel_rfl, ?hy47⟩) ?r47
  case hy47 =>
    intro w hSw
    try dsimp only at hSw
    go_simp
    first | (obtain ⟨y0, y1, y2, y3⟩ := hSw; go_simp) | skip
    try with_reducible rfl
  try simp only [Act.put, List.getElem_toArray, List.getElem_cons_succ, List.getElem_cons_zero, List.setIfInBounds_toArray, List.set_cons_zero, List.set_cons_succ]
  refine AnyBut.takeS (i := 9) (v := ?v48) rfl (by kernel_rfl) (Nat.le_of_eq (by kernel_rfl)) (by kernel_rfl) (by kernel_rfl) (fun _ _ _ h => h) (HS2.out) (Or.inl ⟨by kernel_rfl, ?hy48⟩) ?r48
  case hy48 =>
    intro w hSw
    try dsimp only at hSw
    go_simp
    first | (obtain ⟨y0, y1, y2, y3⟩ := hSw; go_simp) | skip
    try with_reducible rfl
  try simp only [Act.put, List.getElem_toArray, List.getElem_cons_succ, List.getElem_cons_zero, List.setIfInBounds_toArray, List.set_cons_zero, List.set_cons_succ]
  refine AnyBut.done (by kernel_rfl) ?_
  go_wp2
  go_ret
  rw [HX.out D, HX.out D', ← HR.out.1, ← HR.out.2]
  exact ⟨rfl, _, _, _, _, HF.out⟩

set_option maxRecDepth 100000 in
set_option maxHeartbeats 8000000 in
theorem do_boot (W : World) (db mb : Nat) (L : List (ByteArray × Fi)) (rb : Nat) (ao : Option Addr) (cp : Nat) (LR : List RF) (D D' : DA) (x : Ac) (w : World) (h : Half W w db mb L rb ao cp LR D D')
    (hx : x.Ok W) (hk : x.kind = 8) :
    Calls Try.prog 12 #[.pointer (some ⟨db, 0, none⟩), .pointer (some ⟨rb, 0, none⟩), .agg x.box] w (DoTo W db mb rb (actD D x) (actD D' x)) := by
  obtain ⟨k, A, B, n, z, ka, kc, keep⟩ := x
  have HX := Lib.hid (fun E : DA => show actD E ⟨k, A, B, n, z, ka, kc, keep⟩ = bootD E keep by unfold actD; rw [hk]; rfl)
  obtain ⟨kn, hkn⟩ : ∃ kn, kn = keep.length := ⟨_, rfl⟩
  have HS := Lib.hid (And.intro (show A.size ≤ maxLen by have := hx.A; unfold maxLen; dsimp only at this; omega) (And.intro (show B.size ≤ maxLen by have := hx.B; unfold maxLen; dsimp only at this; omega) (show B.size ≤ 100 from hx.B)))
  have HKP := Lib.hid (And.intro hx.at_ hx.keep)
  have HKN := Lib.hid hkn
  unfold Ac.box
  dsimp only at hk hx ⊢ HX HKP
  subst hk
  rw [← hkn] at HKP ⊢
  obtain ⟨q, hq⟩ : ∃ q, q = w.heap.size := ⟨_, rfl⟩
  obtain ⟨w0, hw0⟩ : ∃ w0, w0 = w.alloc (.cells #[.int .i64 8, .string A, .string B, .int .i64 n, .int .i64 z, .slice ka kn kc] 36) := ⟨_, rfl⟩
  have k0 : Kept (fun _ => False) w w0 := by rw [hw0]; exact (Kept.refl _ _).alloc _
  have b0 : BoxAt w0 q 36 #[.int .i64 8, .string A, .string B, .int .i64 n, .int .i64 z, .slice ka kn kc] := by rw [hw0, hq]; exact BoxAt.new w _ _
  have HQ := Lib.hid (h.old (q := q) (by omega))
  have HW := Lib.hid (And.intro hw0 hq)
  have kd : Kept (fun _ => False) w0 w0.drew := (Kept.refl _ _).drew
  have h0 := (h.on k0).on kd
  have HB0 := Lib.hid (b0.kept kd (fun x => x))
  have HH := Lib.hid h0
  have d0 : w0.cell? ⟨q, 0, none⟩ = some (.int .i64 8) := b0.cell rfl
  have HS0 : Hid ((fun w' => w'.cell? ⟨q, 1, none⟩ = some (.string A) ∧ w'.cell? ⟨q, 2, none⟩ = some (.string B) ∧ w'.cell? ⟨q, 3, none⟩ = some (.int .i64 n) ∧ w'.cell? ⟨q, 5, none⟩ = some (.slice ka kn kc)) w0.drew) := Lib.hid ⟨HB0.out.cell rfl, HB0.out.cell rfl, HB0.out.cell rfl, HB0.out.cell rfl⟩
  have HC := Lib.hid (dBoot_any W.heap.size db mb L D ka kn kc keep HKN.out.symm w0.drew HH.out.d (HKP.out.1.kept HH.out.k (fun _ _ x => x)) (fun h0 j e x => by have h1 := (HKP.out.1.blk h0 e).1; have h2 := (HH.out.d.lt x).2; omega))
  obtain ⟨r, hr⟩ : ∃ r, r = bootD D keep := ⟨_, rfl⟩
  obtain ⟨s, hs⟩ : ∃ s, s = bootD D' keep := ⟨_, rfl⟩
  rw [← hr] at HC
  have HR := Lib.hid (And.intro hr hs)
  clear hr hs
  clear hx hkn h hw0 hq k0 b0 h0 kd
  go_enter Try.func12, Try.ntmps12
  go_upto_region 1 with fail
  rw [← HW.out.1, ← HW.out.2]
  go_upto_region 22 with fail
  refine AnyBut.start (S := fun w' => w'.cell? ⟨q, 1, none⟩ = some (.string A) ∧ w'.cell? ⟨q, 2, none⟩ = some (.string B) ∧ w'.cell? ⟨q, 3, none⟩ = some (.int .i64 n) ∧ w'.cell? ⟨q, 5, none⟩ = some (.slice ka kn kc)) (k := 10) (by kernel_rfl) ?_
  refine AnyBut.takeS (i := 0) (v := ?v49) rfl (by kernel_rfl) (Nat.le_of_eq (by kernel_rfl)) (by kernel_rfl) (by kernel_rfl) (fun _ _ _ h => h) (HS0.out) (Or.inl ⟨by kernel_rfl, ?hy49⟩) ?r49
  case hy49 =>
    intro w hSw
    try dsimp only at hSw
    go_simp
    first | (obtain ⟨y0, y1, y2, y3⟩ := hSw; go_simp) | skip
    try with_reducible rfl
  try simp only [Act.put, List.getElem_toArray, List.getElem_cons_zero, List.setIfInBounds_toArray, List.set_cons_zero, List.set_cons_succ]
  refine AnyBut.takeS (i := 1) (v := ?v50) rfl (by kernel_rfl) (Nat.le_of_eq (by kernel_rfl)) (by kernel_rfl) (by kernel_rfl) (fun _ _ _ h => h) (HS0.out) (Or.inl ⟨by kernel_rfl, ?hy50⟩) ?r50
  case hy50 =>
    intro w hSw
    try dsimp only at hSw
    go_simp
    first | (obtain ⟨y0, y1, y2, y3⟩ := hSw; go_simp) | skip
    try with_reducible rfl
  try simp only [Act.put, List.getElem_toArray, List.getElem_cons_succ, List.getElem_cons_zero, List.setIfInBounds_toArray, List.set_cons_zero, List.set_cons_succ]
  refine AnyBut.takeS (i := 2) (v := ?v51) rfl (by kernel_rfl) (Nat.le_of_eq (by kernel_rfl)) (by kernel_rfl) (by kernel_rfl) (fun _ _ _ h => h) (HS0.out) (Or.inl ⟨by kernel_rfl, ?hy51⟩) ?r51
  case hy51 =>
    intro w hSw
    try dsimp only at hSw
    go_simp
    first | (obtain ⟨y0, y1, y2, y3⟩ := hSw; go_simp) | skip
    try with_reducible rfl
  try simp only [Act.put, List.getElem_toArray, List.getElem_cons_succ, List.getElem_cons_zero, List.setIfInBounds_toArray, List.set_cons_zero, List.set_cons_succ]
  refine AnyBut.takeS (i := 4) (v := ?v52) rfl (by kernel_rfl) (Nat.le_of_eq (by kernel_rfl)) (by kernel_rfl) (by kernel_rfl) (fun _ _ _ h => h) (HS0.out) (Or.inl ⟨by kernel_rfl, ?hy52⟩) ?r52
  case hy52 =>
    intro w hSw
    try dsimp only at hSw
    go_simp
    first | (obtain ⟨y0, y1, y2, y3⟩ := hSw; go_simp) | skip
    try with_reducible rfl
  try simp only [Act.put, List.getElem_toArray, List.getElem_cons_succ, List.getElem_cons_zero, List.setIfInBounds_toArray, List.set_cons_zero, List.set_cons_succ]
  refine AnyBut.takeS (i := 5) (v := ?v53) rfl (by kernel_rfl) (Nat.le_of_eq (by kernel_rfl)) (by kernel_rfl) (by kernel_rfl) (fun _ _ _ h => h) (HS0.out) (Or.inl ⟨by kernel_rfl, ?hy53⟩) ?r53
  case hy53 =>
    intro w hSw
    try dsimp only at hSw
    go_simp
    first | (obtain ⟨y0, y1, y2, y3⟩ := hSw; go_simp) | skip
    try with_reducible rfl
  try simp only [Act.put, List.getElem_toArray, List.getElem_cons_succ, List.getElem_cons_zero, List.setIfInBounds_toArray, List.set_cons_zero, List.set_cons_succ]
  refine AnyBut.takeS (i := 6) (v := ?v54) rfl (by kernel_rfl) (Nat.le_of_eq (by kernel_rfl)) (by kernel_rfl) (by kernel_rfl) (fun _ _ _ h => h) (HS0.out) (Or.inl ⟨by kernel_rfl, ?hy54⟩) ?r54
  case hy54 =>
    intro w hSw
    try dsimp only at hSw
    go_simp
    first | (obtain ⟨y0, y1, y2, y3⟩ := hSw; go_simp) | skip
    try with_reducible rfl
  try simp only [Act.put, List.getElem_toArray, List.getElem_cons_succ, List.getElem_cons_zero, List.setIfInBounds_toArray, List.set_cons_zero, List.set_cons_succ]
  refine AnyBut.one (i := 3) (by kernel_rfl) rfl (fun K hK => ?_)
  go_simp
  go_wp2_with fail
  refine HC.out.mono ?_
  intro e w1 hq
  obtain ⟨L1, rfl, h1, k1⟩ := HH.out.prog hq
  have HH1 := Lib.hid h1
  have HB1 := Lib.hid (HB0.out.kept k1 HQ.out.1)
  have HS1 : Hid ((fun w' => w'.cell? ⟨q, 1, none⟩ = some (.string A) ∧ w'.cell? ⟨q, 2, none⟩ = some (.string B) ∧ w'.cell? ⟨q, 3, none⟩ = some (.int .i64 n) ∧ w'.cell? ⟨q, 5, none⟩ = some (.slice ka kn kc)) w1) := Lib.hid ⟨HB1.out.cell rfl, HB1.out.cell rfl, HB1.out.cell rfl, HB1.out.cell rfl⟩
  have HC2 := Lib.hid (refBoot_any rb ao cp LR D' ka kn kc keep HKN.out.symm HKP.out.2 w1 h1.r (HKP.out.1.kept h1.k (fun _ _ x => x)) (fun h0 j e x => by have h1 := (HKP.out.1.blk h0 e).1; have h2 := HH.out.new; omega))
  rw [← HR.out.2] at HC2
  clear hq h1 k1
  go_wp2
  refine hK.out _ _ (HS1.out) ?_
  clear hK K
  try simp only [Act.put, List.getElem_toArray, List.getElem_cons_succ, List.getElem_cons_zero, List.setIfInBounds_toArray, List.set_cons_zero, List.set_cons_succ]
  refine AnyBut.one (i := 7) (by kernel_rfl) rfl (fun K hK => ?_)
  go_simp
  go_wp2_with fail
  refine HC2.out.mono ?_
  intro e w2 hq
  obtain ⟨ao2, cp2, LR2, rfl, h2, k2⟩ := HH1.out.doc hq
  have HF := Lib.hid h2
  have HB2 := Lib.hid (HB1.out.kept k2 (fun e => HQ.out.2 e))
  have HS2 : Hid ((fun w' => w'.cell? ⟨q, 1, none⟩ = some (.string A) ∧ w'.cell? ⟨q, 2, none⟩ = some (.string B) ∧ w'.cell? ⟨q, 3, none⟩ = some (.int .i64 n) ∧ w'.cell? ⟨q, 5, none⟩ = some (.slice ka kn kc)) w2) := Lib.hid ⟨HB2.out.cell rfl, HB2.out.cell rfl, HB2.out.cell rfl, HB2.out.cell rfl⟩
  clear hq h2 k2
  go_wp2
  refine hK.out _ _ (HS2.out) ?_
  clear hK K
  try simp only [Act.put, List.getElem_toArray, List.getElem_cons_succ, List.getElem_cons_zero, List.setIfInBounds_toArray, List.set_cons_zero, List.set_cons_succ]
  refine AnyBut.takeS (i := 8) (v := ?v55) rfl (by kernel_rfl) (Nat.le_of_eq (by kernel_rfl)) (by kernel_rfl) (by kernel_rfl) (fun _ _ _ h => h) (HS2.out) (Or.inl ⟨by kernel_rfl, ?hy55⟩) ?r55
  case hy55 =>
    intro w hSw
    try dsimp only at hSw
    go_simp
    first | (obtain ⟨y0, y1, y2, y3⟩ := hSw; go_simp) | skip
    try with_reducible rfl
  try simp only [Act.put, List.getElem_toArray, List.getElem_cons_succ, List.getElem_cons_zero, List.setIfInBounds_toArray, List.set_cons_zero, List.set_cons_succ]
  refine AnyBut.takeS (i := 9) (v := ?v56) rfl (by kernel_rfl) (Nat.le_of_eq (by kernel_rfl)) (by kernel_rfl) (by kernel_rfl) (fun _ _ _ h => h) (HS2.out) (Or.inl ⟨by kernel_rfl, ?hy56⟩) ?r56
  case hy56 =>
    intro w hSw
    try dsimp only at hSw
    go_simp
    first | (obtain ⟨y0, y1, y2, y3⟩ := hSw; go_simp) | skip
    try with_reducible rfl
  try simp only [Act.put, List.getElem_toArray, List.getElem_cons_succ, List.getElem_cons_zero, List.setIfInBounds_toArray, List.set_cons_zero, List.set_cons_succ]
  refine AnyBut.done (by kernel_rfl) ?_
  go_wp2
  go_ret
  rw [HX.out D, HX.out D', ← HR.out.1, ← HR.out.2]
  exact ⟨rfl, _, _, _, _, HF.out⟩
end Go.Proofs.Ytdhfalcjohfdkaa
