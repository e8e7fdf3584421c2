/- Layer 18: what do does in both disks: Append (written by tools/gen_XSP.py). -/
import Derived.Test.YtdhfalcjohfdkaaSO
namespace Go.Proofs.Ytdhfalcjohfdkaa
open Go.RowKit
attribute [local go_sem ↓] Go.wp_at_zero Go.wp_at_succ

set_option maxRecDepth 100000 in
set_option maxHeartbeats 8000000 in
theorem do_append (W : World) (db mb : Nat) (L : List (ByteArray × Fi)) (rb : Nat) (ao : Option Addr) (cp : Nat) (LR : List RF) (D D' : DA) (x : Ac) (w : World) (h : Half W w db mb L rb ao cp LR D D')
    (hx : x.Ok W) (hk : x.kind = 1) :
    Calls Try.prog 12 #[.pointer (some ⟨db, 0, none⟩), .pointer (some ⟨rb, 0, none⟩), .agg x.box] w (DoTo W db mb rb (actD D x) (actD D' x)) := by
  obtain ⟨k, A, B, n, z, ka, kc, keep⟩ := x
  have HX := Lib.hid (fun E : DA => show actD E ⟨k, A, B, n, z, ka, kc, keep⟩ = appendD E A (bl B) by unfold actD; rw [hk]; rfl)
  obtain ⟨kn, hkn⟩ : ∃ kn, kn = keep.length := ⟨_, rfl⟩
  have HS := Lib.hid (And.intro (show A.size ≤ maxLen by have := hx.A; unfold maxLen; dsimp only at this; omega) (And.intro (show B.size ≤ maxLen by have := hx.B; unfold maxLen; dsimp only at this; omega) (show B.size ≤ 100 from hx.B)))
  have HKP := Lib.hid (And.intro hx.at_ hx.keep)
  have HKN := Lib.hid hkn
  unfold Ac.box
  dsimp only at hk hx ⊢ HX HKP
  subst hk
  rw [← hkn] at HKP ⊢
  obtain ⟨q, hq⟩ : ∃ q, q = w.heap.size := ⟨_, rfl⟩
  obtain ⟨w0, hw0⟩ : ∃ w0, w0 = w.alloc (.cells #[.int .i64 1, .string A, .string B, .int .i64 n, .int .i64 z, .slice ka kn kc] 36) := ⟨_, rfl⟩
  have k0 : Kept (fun _ => False) w w0 := by rw [hw0]; exact (Kept.refl _ _).alloc _
  have b0 : BoxAt w0 q 36 #[.int .i64 1, .string A, .string B, .int .i64 n, .int .i64 z, .slice ka kn kc] := by rw [hw0, hq]; exact BoxAt.new w _ _
  have HQ := Lib.hid (h.old (q := q) (by omega))
  have HW := Lib.hid (And.intro hw0 hq)
  have kd : Kept (fun _ => False) w0 w0.drew := (Kept.refl _ _).drew
  have h0 := (h.on k0).on kd
  have HB0 := Lib.hid (b0.kept kd (fun x => x))
  have HH := Lib.hid h0
  have d0 : w0.cell? ⟨q, 0, none⟩ = some (.int .i64 1) := b0.cell rfl
  have HS0 : Hid ((fun w' => w'.cell? ⟨q, 1, none⟩ = some (.string A) ∧ w'.cell? ⟨q, 2, none⟩ = some (.string B) ∧ w'.cell? ⟨q, 3, none⟩ = some (.int .i64 n) ∧ w'.cell? ⟨q, 5, none⟩ = some (.slice ka kn kc)) w0.drew) := Lib.hid ⟨HB0.out.cell rfl, HB0.out.cell rfl, HB0.out.cell rfl, HB0.out.cell rfl⟩
  obtain ⟨r, hr⟩ : ∃ r, r = appendD D A (bl B) := ⟨_, rfl⟩
  obtain ⟨s, hs⟩ : ∃ s, s = appendD D' A (bl B) := ⟨_, rfl⟩
  have HR := Lib.hid (And.intro hr hs)
  have HZ0 : Hid (w0.heap.size ≤ w0.drew.heap.size) := Lib.hid (Nat.le_refl _)
  have HOLD : Hid (∀ j, w0.heap.size ≤ j → ¬ foot db mb L j) := Lib.hid (fun j hj x => by have := (HH.out.d.lt x).1; rw [show w0.drew.heap.size = w0.heap.size from rfl] at this; omega)
  have HRB : Hid (rb < w0.heap.size) := Lib.hid (HH.out.r.lt (.inl rfl))
  clear hr hs
  clear hx hkn h hw0 hq k0 b0 h0 kd
  go_enter Try.func12, Try.ntmps12
  go_upto_region 1 with fail
  rw [← HW.out.1, ← HW.out.2]
  go_upto_region 5 with fail
  refine AnyBut.start (S := fun w' => w'.cell? ⟨q, 1, none⟩ = some (.string A) ∧ w'.cell? ⟨q, 2, none⟩ = some (.string B) ∧ w'.cell? ⟨q, 3, none⟩ = some (.int .i64 n) ∧ w'.cell? ⟨q, 5, none⟩ = some (.slice ka kn kc)) (k := 16) (by kernel_rfl) ?_
  refine AnyBut.takeS (i := 0) (v := ?v57) rfl (by kernel_rfl) (Nat.le_of_eq (by kernel_rfl)) (by kernel_rfl) (by kernel_rfl) (fun _ _ _ h => h) (HS0.out) (Or.inl ⟨by kernel_rfl, ?hy57⟩) ?r57
  case hy57 =>
    intro w hSw
    try dsimp only at hSw
    go_simp
    first | (obtain ⟨y0, y1, y2, y3⟩ := hSw; go_simp) | skip
    try with_reducible rfl
  try simp only [Act.put, List.getElem_toArray, List.getElem_cons_zero, List.setIfInBounds_toArray, List.set_cons_zero, List.set_cons_succ]
  refine AnyBut.takeS (i := 1) (v := ?v58) rfl (by kernel_rfl) (Nat.le_of_eq (by kernel_rfl)) (by kernel_rfl) (by kernel_rfl) (fun _ _ _ h => h) (HS0.out) (Or.inl ⟨by kernel_rfl, ?hy58⟩) ?r58
  case hy58 =>
    intro w hSw
    try dsimp only at hSw
    go_simp
    first | (obtain ⟨y0, y1, y2, y3⟩ := hSw; go_simp) | skip
    try with_reducible rfl
  try simp only [Act.put, List.getElem_toArray, List.getElem_cons_succ, List.getElem_cons_zero, List.setIfInBounds_toArray, List.set_cons_zero, List.set_cons_succ]
  refine AnyBut.takeS (i := 2) (v := ?v59) rfl (by kernel_rfl) (Nat.le_of_eq (by kernel_rfl)) (by kernel_rfl) (by kernel_rfl) (fun _ _ _ h => h) (HS0.out) (Or.inl ⟨by kernel_rfl, ?hy59⟩) ?r59
  case hy59 =>
    intro w hSw
    try dsimp only at hSw
    go_simp
    first | (obtain ⟨y0, y1, y2, y3⟩ := hSw; go_simp) | skip
    try with_reducible rfl
  try simp only [Act.put, List.getElem_toArray, List.getElem_cons_succ, List.getElem_cons_zero, List.setIfInBounds_toArray, List.set_cons_zero, List.set_cons_succ]
  refine AnyBut.takeS (i := 3) (v := ?v60) rfl (by kernel_rfl) (Nat.le_of_eq (by kernel_rfl)) (by kernel_rfl) (by kernel_rfl) (fun _ _ _ h => h) (HS0.out) (Or.inl ⟨by kernel_rfl, ?hy60⟩) ?r60
  case hy60 =>
    intro w hSw
    try dsimp only at hSw
    go_simp
    first | (obtain ⟨y0, y1, y2, y3⟩ := hSw; go_simp) | skip
    try with_reducible rfl
  try simp only [Act.put, List.getElem_toArray, List.getElem_cons_succ, List.getElem_cons_zero, List.setIfInBounds_toArray, List.set_cons_zero, List.set_cons_succ]
  refine AnyBut.takeS (i := 4) (v := ?v61) rfl (by kernel_rfl) (Nat.le_of_eq (by kernel_rfl)) (by kernel_rfl) (by kernel_rfl) (fun _ _ _ h => h) (HS0.out) (Or.inl ⟨by kernel_rfl, ?hy61⟩) ?r61
  case hy61 =>
    intro w hSw
    try dsimp only at hSw
    go_simp
    first | (obtain ⟨y0, y1, y2, y3⟩ := hSw; go_simp) | skip
    try with_reducible rfl
  try simp only [Act.put, List.getElem_toArray, List.getElem_cons_succ, List.getElem_cons_zero, List.setIfInBounds_toArray, List.set_cons_zero, List.set_cons_succ]
  refine AnyBut.takeS (i := 7) (v := ?v62) rfl (by kernel_rfl) (Nat.le_of_eq (by kernel_rfl)) (by kernel_rfl) (by kernel_rfl) (fun _ _ _ h => h) (HS0.out) (Or.inl ⟨by kernel_rfl, ?hy62⟩) ?r62
  case hy62 =>
    intro w hSw
    try dsimp only at hSw
    go_simp
    first | (obtain ⟨y0, y1, y2, y3⟩ := hSw; go_simp) | skip
    try with_reducible rfl
  try simp only [Act.put, List.getElem_toArray, List.getElem_cons_succ, List.getElem_cons_zero, List.setIfInBounds_toArray, List.set_cons_zero, List.set_cons_succ]
  refine AnyBut.takeS (i := 8) (v := ?v63) rfl (by kernel_rfl) (Nat.le_of_eq (by kernel_rfl)) (by kernel_rfl) (by kernel_rfl) (fun _ _ _ h => h) (HS0.out) (Or.inl ⟨by kernel_rfl, ?hy63⟩) ?r63
  case hy63 =>
    intro w hSw
    try dsimp only at hSw
    go_simp
    first | (obtain ⟨y0, y1, y2, y3⟩ := hSw; go_simp) | skip
    try with_reducible rfl
  try simp only [Act.put, List.getElem_toArray, List.getElem_cons_succ, List.getElem_cons_zero, List.setIfInBounds_toArray, List.set_cons_zero, List.set_cons_succ]
  refine AnyBut.takeS (i := 9) (v := ?v64) rfl (by kernel_rfl) (Nat.le_of_eq (by kernel_rfl)) (by kernel_rfl) (by kernel_rfl) (fun _ _ _ h => h) (HS0.out) (Or.inl ⟨by kernel_rfl, ?hy64⟩) ?r64
  case hy64 =>
    intro w hSw
    try dsimp only at hSw
    go_simp
    first | (obtain ⟨y0, y1, y2, y3⟩ := hSw; go_simp) | skip
    try with_reducible rfl
  try simp only [Act.put, List.getElem_toArray, List.getElem_cons_succ, List.getElem_cons_zero, List.setIfInBounds_toArray, List.set_cons_zero, List.set_cons_succ]
  refine AnyBut.takeS (i := 10) (v := ?v65) rfl (by kernel_rfl) (Nat.le_of_eq (by kernel_rfl)) (by kernel_rfl) (by kernel_rfl) (fun _ _ _ h => h) (HS0.out) (Or.inl ⟨by kernel_rfl, ?hy65⟩) ?r65
  case hy65 =>
    intro w hSw
    try dsimp only at hSw
    go_simp
    first | (obtain ⟨y0, y1, y2, y3⟩ := hSw; go_simp) | skip
    try with_reducible rfl
  try simp only [Act.put, List.getElem_toArray, List.getElem_cons_succ, List.getElem_cons_zero, List.setIfInBounds_toArray, List.set_cons_zero, List.set_cons_succ]
  refine AnyBut.takeS (i := 11) (v := ?v66) rfl (by kernel_rfl) (Nat.le_of_eq (by kernel_rfl)) (by kernel_rfl) (by kernel_rfl) (fun _ _ _ h => h) (HS0.out) (Or.inl ⟨by kernel_rfl, ?hy66⟩) ?r66
  case hy66 =>
    intro w hSw
    try dsimp only at hSw
    go_simp
    first | (obtain ⟨y0, y1, y2, y3⟩ := hSw; go_simp) | skip
    try with_reducible rfl
  try simp only [Act.put, List.getElem_toArray, List.getElem_cons_succ, List.getElem_cons_zero, List.setIfInBounds_toArray, List.set_cons_zero, List.set_cons_succ]
  refine AnyBut.two (i := 5) (j := 12) (by kernel_rfl) rfl rfl (fun K hK => ?_) (fun K hK => ?_)
  · obtain ⟨ga, hga⟩ : ∃ ga, ga = (w0.drew).heap.size := ⟨_, rfl⟩
    obtain ⟨ca, hca⟩ : ∃ ca, ca = grownCap (w0.drew) B.size 0 5 := ⟨_, rfl⟩
    obtain ⟨wa, hwa⟩ : ∃ wa, wa = Lib.bytesWorld (w0.drew) 5 B := ⟨_, rfl⟩
    have cv := bytes_run (w0.drew) B
    rw [← hga, ← hca, ← hwa] at cv
    have kv : Kept (fun _ => False) (w0.drew) wa := by rw [hwa]; exact bytes_kept _ _
    have HV5 := Lib.hid (And.intro (show SlAt wa (.slice (some ⟨ga, 0, none⟩) B.size ca) (byV (bl B)) by rw [hwa, hga]; exact bytes_at _ _ _) (show w0.heap.size ≤ ga by rw [hga]; exact HZ0.out))
    have HHa := Lib.hid (HH.out.on kv)
    have HBa := Lib.hid (HB0.out.kept kv (fun x => x))
    have HSa : Hid ((fun w' => w'.cell? ⟨q, 1, none⟩ = some (.string A) ∧ w'.cell? ⟨q, 2, none⟩ = some (.string B) ∧ w'.cell? ⟨q, 3, none⟩ = some (.int .i64 n) ∧ w'.cell? ⟨q, 5, none⟩ = some (.slice ka kn kc)) wa) := Lib.hid ⟨HBa.out.cell rfl, HBa.out.cell rfl, HBa.out.cell rfl, HBa.out.cell rfl⟩
    have HZa : Hid (w0.heap.size ≤ wa.heap.size) := Lib.hid (Nat.le_trans HZ0.out kv.size)
    clear hga hca hwa kv
    go_simp
    go_wp2
    clear cv
    refine hK.out _ _ (HSa.out) ?_
    clear hK K
    try simp only [Act.put, List.getElem_toArray, List.getElem_cons_succ, List.getElem_cons_zero, List.setIfInBounds_toArray, List.set_cons_zero, List.set_cons_succ]
    refine AnyBut.two (i := 6) (j := 12) (by kernel_rfl) rfl rfl (fun K hK => ?_) (fun K hK => ?_)
    · have HC := Lib.hid (dAppend_any W.heap.size db mb L D A HS.out.1 (some ⟨ga, 0, none⟩) B.size ca (bl B) (bl_length B) (fun x hx => bl_lt hx) (by have := HS.out.2.2; omega) wa HHa.out.d HV5.out.1 (fun _ j e x => HOLD.out j (by have e' : ga = j := (by injection e); have := HV5.out.2; omega) (.inl x)))
      rw [← HR.out.1] at HC
      go_simp
      go_wp2_with fail
      refine HC.out.mono ?_
      intro e wc hq
      obtain ⟨L1, rfl, h1, k1⟩ := HHa.out.prog hq
      have HHc := Lib.hid h1
      have HBc := Lib.hid (HBa.out.kept k1 (HQ.out.1))
      have HSc : Hid ((fun w' => w'.cell? ⟨q, 1, none⟩ = some (.string A) ∧ w'.cell? ⟨q, 2, none⟩ = some (.string B) ∧ w'.cell? ⟨q, 3, none⟩ = some (.int .i64 n) ∧ w'.cell? ⟨q, 5, none⟩ = some (.slice ka kn kc)) wc) := Lib.hid ⟨HBc.out.cell rfl, HBc.out.cell rfl, HBc.out.cell rfl, HBc.out.cell rfl⟩
      have HZc : Hid (w0.heap.size ≤ wc.heap.size) := Lib.hid (Nat.le_trans HZa.out k1.size)
      clear hq h1 k1 HC
      go_wp2
      refine hK.out _ _ (HSc.out) ?_
      clear hK K
      try simp only [Act.put, List.getElem_toArray, List.getElem_cons_succ, List.getElem_cons_zero, List.setIfInBounds_toArray, List.set_cons_zero, List.set_cons_succ]
      refine AnyBut.one (i := 12) (by kernel_rfl) rfl (fun K hK => ?_)
      obtain ⟨gb, hgb⟩ : ∃ gb, gb = (wc).heap.size := ⟨_, rfl⟩
      obtain ⟨cb, hcb⟩ : ∃ cb, cb = grownCap (wc) B.size 0 5 := ⟨_, rfl⟩
      obtain ⟨wb, hwb⟩ : ∃ wb, wb = Lib.bytesWorld (wc) 5 B := ⟨_, rfl⟩
      have cv := bytes_run (wc) B
      rw [← hgb, ← hcb, ← hwb] at cv
      have kv : Kept (fun _ => False) (wc) wb := by rw [hwb]; exact bytes_kept _ _
      have HV12 := Lib.hid (And.intro (show SlAt wb (.slice (some ⟨gb, 0, none⟩) B.size cb) (byV (bl B)) by rw [hwb, hgb]; exact bytes_at _ _ _) (show w0.heap.size ≤ gb by rw [hgb]; exact HZc.out))
      have HHb := Lib.hid (HHc.out.on kv)
      have HBb := Lib.hid (HBc.out.kept kv (fun x => x))
      have HSb : Hid ((fun w' => w'.cell? ⟨q, 1, none⟩ = some (.string A) ∧ w'.cell? ⟨q, 2, none⟩ = some (.string B) ∧ w'.cell? ⟨q, 3, none⟩ = some (.int .i64 n) ∧ w'.cell? ⟨q, 5, none⟩ = some (.slice ka kn kc)) wb) := Lib.hid ⟨HBb.out.cell rfl, HBb.out.cell rfl, HBb.out.cell rfl, HBb.out.cell rfl⟩
      have HZb : Hid (w0.heap.size ≤ wb.heap.size) := Lib.hid (Nat.le_trans HZc.out kv.size)
      clear hgb hcb hwb kv
      go_simp
      go_wp2
      clear cv
      refine hK.out _ _ (HSb.out) ?_
      clear hK K
      try simp only [Act.put, List.getElem_toArray, List.getElem_cons_succ, List.getElem_cons_zero, List.setIfInBounds_toArray, List.set_cons_zero, List.set_cons_succ]
      refine AnyBut.one (i := 13) (by kernel_rfl) rfl (fun K hK => ?_)
      have HC := Lib.hid (refAppend_any rb ao cp LR D' A (some ⟨gb, 0, none⟩) B.size cb (bl B) (bl_length B) (fun x hx => bl_lt hx) (by have := HS.out.2.2; omega) wb HHb.out.r HV12.out.1 (fun _ j e x => by have e' : gb = j := (by injection e); have h2 := HV12.out.2; have h3 := HRB.out; omega))
      rw [← HR.out.2] at HC
      go_simp
      go_wp2_with fail
      refine HC.out.mono ?_
      intro e wd hq
      obtain ⟨ao2, cp2, LR2, rfl, h2, k2⟩ := HHb.out.doc hq
      have HF := Lib.hid h2
      have HBd := Lib.hid (HBb.out.kept k2 (fun e => HQ.out.2 e))
      have HSd : Hid ((fun w' => w'.cell? ⟨q, 1, none⟩ = some (.string A) ∧ w'.cell? ⟨q, 2, none⟩ = some (.string B) ∧ w'.cell? ⟨q, 3, none⟩ = some (.int .i64 n) ∧ w'.cell? ⟨q, 5, none⟩ = some (.slice ka kn kc)) wd) := Lib.hid ⟨HBd.out.cell rfl, HBd.out.cell rfl, HBd.out.cell rfl, HBd.out.cell rfl⟩
      have HZd : Hid (w0.heap.size ≤ wd.heap.size) := Lib.hid (Nat.le_trans HZb.out k2.size)
      clear hq h2 k2 HC
      go_wp2
      refine hK.out _ _ (HSd.out) ?_
      clear hK K
      try simp only [Act.put, List.getElem_toArray, List.getElem_cons_succ, List.getElem_cons_zero, List.setIfInBounds_toArray, List.set_cons_zero, List.set_cons_succ]
      refine AnyBut.takeS (i := 14) (v := ?v67) rfl (by kernel_rfl) (Nat.le_of_eq (by kernel_rfl)) (by kernel_rfl) (by kernel_rfl) (fun _ _ _ h => h) (HSd.out) (Or.inl ⟨by kernel_rfl, ?hy67⟩) ?r67
      case hy67 =>
        intro w hSw
        try dsimp only at hSw
        go_simp
        first | (obtain ⟨y0, y1, y2, y3⟩ := hSw; go_simp) | skip
        try with_reducible rfl
      try simp only [Act.put, List.getElem_toArray, List.getElem_cons_succ, List.getElem_cons_zero, List.setIfInBounds_toArray, List.set_cons_zero, List.set_cons_succ]
      refine AnyBut.takeS (i := 15) (v := ?v68) rfl (by kernel_rfl) (Nat.le_of_eq (by kernel_rfl)) (by kernel_rfl) (by kernel_rfl) (fun _ _ _ h => h) (HSd.out) (Or.inl ⟨by kernel_rfl, ?hy68⟩) ?r68
      case hy68 =>
        intro w hSw
        try dsimp only at hSw
        go_simp
        first | (obtain ⟨y0, y1, y2, y3⟩ := hSw; go_simp) | skip
        try with_reducible rfl
      try simp only [Act.put, List.getElem_toArray, List.getElem_cons_succ, List.getElem_cons_zero, List.setIfInBounds_toArray, List.set_cons_zero, List.set_cons_succ]
      refine AnyBut.done (by kernel_rfl) ?_
      go_wp2
      go_ret
      rw [HX.out D, HX.out D', ← HR.out.1, ← HR.out.2]
      exact ⟨rfl, _, _, _, _, HF.out⟩
    · obtain ⟨gb, hgb⟩ : ∃ gb, gb = (wa).heap.size := ⟨_, rfl⟩
      obtain ⟨cb, hcb⟩ : ∃ cb, cb = grownCap (wa) B.size 0 5 := ⟨_, rfl⟩
      obtain ⟨wb, hwb⟩ : ∃ wb, wb = Lib.bytesWorld (wa) 5 B := ⟨_, rfl⟩
      have cv := bytes_run (wa) B
      rw [← hgb, ← hcb, ← hwb] at cv
      have kv : Kept (fun _ => False) (wa) wb := by rw [hwb]; exact bytes_kept _ _
      have HV12 := Lib.hid (And.intro (show SlAt wb (.slice (some ⟨gb, 0, none⟩) B.size cb) (byV (bl B)) by rw [hwb, hgb]; exact bytes_at _ _ _) (show w0.heap.size ≤ gb by rw [hgb]; exact HZa.out))
      have HHb := Lib.hid (HHa.out.on kv)
      have HBb := Lib.hid (HBa.out.kept kv (fun x => x))
      have HSb : Hid ((fun w' => w'.cell? ⟨q, 1, none⟩ = some (.string A) ∧ w'.cell? ⟨q, 2, none⟩ = some (.string B) ∧ w'.cell? ⟨q, 3, none⟩ = some (.int .i64 n) ∧ w'.cell? ⟨q, 5, none⟩ = some (.slice ka kn kc)) wb) := Lib.hid ⟨HBb.out.cell rfl, HBb.out.cell rfl, HBb.out.cell rfl, HBb.out.cell rfl⟩
      have HZb : Hid (w0.heap.size ≤ wb.heap.size) := Lib.hid (Nat.le_trans HZa.out kv.size)
      replace HV5 := Lib.hid (And.intro (HV5.out.1.kept kv (fun _ _ x => x)) HV5.out.2)
      clear hgb hcb hwb kv
      go_simp
      go_wp2
      clear cv
      refine hK.out _ _ (HSb.out) ?_
      clear hK K
      try simp only [Act.put, List.getElem_toArray, List.getElem_cons_succ, List.getElem_cons_zero, List.setIfInBounds_toArray, List.set_cons_zero, List.set_cons_succ]
      refine AnyBut.one (i := 6) (by kernel_rfl) rfl (fun K hK => ?_)
      have HC := Lib.hid (dAppend_any W.heap.size db mb L D A HS.out.1 (some ⟨ga, 0, none⟩) B.size ca (bl B) (bl_length B) (fun x hx => bl_lt hx) (by have := HS.out.2.2; omega) wb HHb.out.d HV5.out.1 (fun _ j e x => HOLD.out j (by have e' : ga = j := (by injection e); have := HV5.out.2; omega) (.inl x)))
      rw [← HR.out.1] at HC
      go_simp
      go_wp2_with fail
      refine HC.out.mono ?_
      intro e wc hq
      obtain ⟨L1, rfl, h1, k1⟩ := HHb.out.prog hq
      have HHc := Lib.hid h1
      have HBc := Lib.hid (HBb.out.kept k1 (HQ.out.1))
      have HSc : Hid ((fun w' => w'.cell? ⟨q, 1, none⟩ = some (.string A) ∧ w'.cell? ⟨q, 2, none⟩ = some (.string B) ∧ w'.cell? ⟨q, 3, none⟩ = some (.int .i64 n) ∧ w'.cell? ⟨q, 5, none⟩ = some (.slice ka kn kc)) wc) := Lib.hid ⟨HBc.out.cell rfl, HBc.out.cell rfl, HBc.out.cell rfl, HBc.out.cell rfl⟩
      have HZc : Hid (w0.heap.size ≤ wc.heap.size) := Lib.hid (Nat.le_trans HZb.out k1.size)
      replace HV12 := Lib.hid (And.intro (HV12.out.1.kept k1 (fun j e x => HOLD.out j (by have e' : gb = j := (by injection e); have := HV12.out.2; omega) x)) HV12.out.2)
      clear hq h1 k1 HC
      go_wp2
      refine hK.out _ _ (HSc.out) ?_
      clear hK K
      try simp only [Act.put, List.getElem_toArray, List.getElem_cons_succ, List.getElem_cons_zero, List.setIfInBounds_toArray, List.set_cons_zero, List.set_cons_succ]
      refine AnyBut.one (i := 13) (by kernel_rfl) rfl (fun K hK => ?_)
      have HC := Lib.hid (refAppend_any rb ao cp LR D' A (some ⟨gb, 0, none⟩) B.size cb (bl B) (bl_length B) (fun x hx => bl_lt hx) (by have := HS.out.2.2; omega) wc HHc.out.r HV12.out.1 (fun _ j e x => by have e' : gb = j := (by injection e); have h2 := HV12.out.2; have h3 := HRB.out; omega))
      rw [← HR.out.2] at HC
      go_simp
      go_wp2_with fail
      refine HC.out.mono ?_
      intro e wd hq
      obtain ⟨ao2, cp2, LR2, rfl, h2, k2⟩ := HHc.out.doc hq
      have HF := Lib.hid h2
      have HBd := Lib.hid (HBc.out.kept k2 (fun e => HQ.out.2 e))
      have HSd : Hid ((fun w' => w'.cell? ⟨q, 1, none⟩ = some (.string A) ∧ w'.cell? ⟨q, 2, none⟩ = some (.string B) ∧ w'.cell? ⟨q, 3, none⟩ = some (.int .i64 n) ∧ w'.cell? ⟨q, 5, none⟩ = some (.slice ka kn kc)) wd) := Lib.hid ⟨HBd.out.cell rfl, HBd.out.cell rfl, HBd.out.cell rfl, HBd.out.cell rfl⟩
      have HZd : Hid (w0.heap.size ≤ wd.heap.size) := Lib.hid (Nat.le_trans HZc.out k2.size)
      clear hq h2 k2 HC
      go_wp2
      refine hK.out _ _ (HSd.out) ?_
      clear hK K
      try simp only [Act.put, List.getElem_toArray, List.getElem_cons_succ, List.getElem_cons_zero, List.setIfInBounds_toArray, List.set_cons_zero, List.set_cons_succ]
      refine AnyBut.takeS (i := 14) (v := ?v69) rfl (by kernel_rfl) (Nat.le_of_eq (by kernel_rfl)) (by kernel_rfl) (by kernel_rfl) (fun _ _ _ h => h) (HSd.out) (Or.inl ⟨by kernel_rfl, ?hy69⟩) ?r69
      case hy69 =>
        intro w hSw
        try dsimp only at hSw
        go_simp
        first | (obtain ⟨y0, y1, y2, y3⟩ := hSw; go_simp) | skip
        try with_reducible rfl
      try simp only [Act.put, List.getElem_toArray, List.getElem_cons_succ, List.getElem_cons_zero, List.setIfInBounds_toArray, List.set_cons_zero, List.set_cons_succ]
      refine AnyBut.takeS (i := 15) (v := ?v70) rfl (by kernel_rfl) (Nat.le_of_eq (by kernel_rfl)) (by kernel_rfl) (by kernel_rfl) (fun _ _ _ h => h) (HSd.out) (Or.inl ⟨by kernel_rfl, ?hy70⟩) ?r70
      case hy70 =>
        intro w hSw
        try dsimp only at hSw
        go_simp
        first | (obtain ⟨y0, y1, y2, y3⟩ := hSw; go_simp) | skip
        try with_reducible rfl
      try simp only [Act.put, List.getElem_toArray, List.getElem_cons_succ, List.getElem_cons_zero, List.setIfInBounds_toArray, List.set_cons_zero, List.set_cons_succ]
      refine AnyBut.done (by kernel_rfl) ?_
      go_wp2
      go_ret
      rw [HX.out D, HX.out D', ← HR.out.1, ← HR.out.2]
      exact ⟨rfl, _, _, _, _, HF.out⟩
  · obtain ⟨gb, hgb⟩ : ∃ gb, gb = (w0.drew).heap.size := ⟨_, rfl⟩
    obtain ⟨cb, hcb⟩ : ∃ cb, cb = grownCap (w0.drew) B.size 0 5 := ⟨_, rfl⟩
    obtain ⟨wb, hwb⟩ : ∃ wb, wb = Lib.bytesWorld (w0.drew) 5 B := ⟨_, rfl⟩
    have cv := bytes_run (w0.drew) B
    rw [← hgb, ← hcb, ← hwb] at cv
    have kv : Kept (fun _ => False) (w0.drew) wb := by rw [hwb]; exact bytes_kept _ _
    have HV12 := Lib.hid (And.intro (show SlAt wb (.slice (some ⟨gb, 0, none⟩) B.size cb) (byV (bl B)) by rw [hwb, hgb]; exact bytes_at _ _ _) (show w0.heap.size ≤ gb by rw [hgb]; exact HZ0.out))
    have HHb := Lib.hid (HH.out.on kv)
    have HBb := Lib.hid (HB0.out.kept kv (fun x => x))
    have HSb : Hid ((fun w' => w'.cell? ⟨q, 1, none⟩ = some (.string A) ∧ w'.cell? ⟨q, 2, none⟩ = some (.string B) ∧ w'.cell? ⟨q, 3, none⟩ = some (.int .i64 n) ∧ w'.cell? ⟨q, 5, none⟩ = some (.slice ka kn kc)) wb) := Lib.hid ⟨HBb.out.cell rfl, HBb.out.cell rfl, HBb.out.cell rfl, HBb.out.cell rfl⟩
    have HZb : Hid (w0.heap.size ≤ wb.heap.size) := Lib.hid (Nat.le_trans HZ0.out kv.size)
    clear hgb hcb hwb kv
    go_simp
    go_wp2
    clear cv
    refine hK.out _ _ (HSb.out) ?_
    clear hK K
    try simp only [Act.put, List.getElem_toArray, List.getElem_cons_succ, List.getElem_cons_zero, List.setIfInBounds_toArray, List.set_cons_zero, List.set_cons_succ]
    refine AnyBut.one (i := 5) (by kernel_rfl) rfl (fun K hK => ?_)
    obtain ⟨ga, hga⟩ : ∃ ga, ga = (wb).heap.size := ⟨_, rfl⟩
    obtain ⟨ca, hca⟩ : ∃ ca, ca = grownCap (wb) B.size 0 5 := ⟨_, rfl⟩
    obtain ⟨wa, hwa⟩ : ∃ wa, wa = Lib.bytesWorld (wb) 5 B := ⟨_, rfl⟩
    have cv := bytes_run (wb) B
    rw [← hga, ← hca, ← hwa] at cv
    have kv : Kept (fun _ => False) (wb) wa := by rw [hwa]; exact bytes_kept _ _
    have HV5 := Lib.hid (And.intro (show SlAt wa (.slice (some ⟨ga, 0, none⟩) B.size ca) (byV (bl B)) by rw [hwa, hga]; exact bytes_at _ _ _) (show w0.heap.size ≤ ga by rw [hga]; exact HZb.out))
    have HHa := Lib.hid (HHb.out.on kv)
    have HBa := Lib.hid (HBb.out.kept kv (fun x => x))
    have HSa : Hid ((fun w' => w'.cell? ⟨q, 1, none⟩ = some (.string A) ∧ w'.cell? ⟨q, 2, none⟩ = some (.string B) ∧ w'.cell? ⟨q, 3, none⟩ = some (.int .i64 n) ∧ w'.cell? ⟨q, 5, none⟩ = some (.slice ka kn kc)) wa) := Lib.hid ⟨HBa.out.cell rfl, HBa.out.cell rfl, HBa.out.cell rfl, HBa.out.cell rfl⟩
    have HZa : Hid (w0.heap.size ≤ wa.heap.size) := Lib.hid (Nat.le_trans HZb.out kv.size)
    replace HV12 := Lib.hid (And.intro (HV12.out.1.kept kv (fun _ _ x => x)) HV12.out.2)
    clear hga hca hwa kv
    go_simp
    go_wp2
    clear cv
    refine hK.out _ _ (HSa.out) ?_
    clear hK K
    try simp only [Act.put, List.getElem_toArray, List.getElem_cons_succ, List.getElem_cons_zero, List.setIfInBounds_toArray, List.set_cons_zero, List.set_cons_succ]
    refine AnyBut.one (i := 6) (by kernel_rfl) rfl (fun K hK => ?_)
    have HC := Lib.hid (dAppend_any W.heap.size db mb L D A HS.out.1 (some ⟨ga, 0, none⟩) B.size ca (bl B) (bl_length B) (fun x hx => bl_lt hx) (by have := HS.out.2.2; omega) wa HHa.out.d HV5.out.1 (fun _ j e x => HOLD.out j (by have e' : ga = j := (by injection e); have := HV5.out.2; omega) (.inl x)))
    rw [← HR.out.1] at HC
    go_simp
    go_wp2_with fail
    refine HC.out.mono ?_
    intro e wc hq
    obtain ⟨L1, rfl, h1, k1⟩ := HHa.out.prog hq
    have HHc := Lib.hid h1
    have HBc := Lib.hid (HBa.out.kept k1 (HQ.out.1))
    have HSc : Hid ((fun w' => w'.cell? ⟨q, 1, none⟩ = some (.string A) ∧ w'.cell? ⟨q, 2, none⟩ = some (.string B) ∧ w'.cell? ⟨q, 3, none⟩ = some (.int .i64 n) ∧ w'.cell? ⟨q, 5, none⟩ = some (.slice ka kn kc)) wc) := Lib.hid ⟨HBc.out.cell rfl, HBc.out.cell rfl, HBc.out.cell rfl, HBc.out.cell rfl⟩
    have HZc : Hid (w0.heap.size ≤ wc.heap.size) := Lib.hid (Nat.le_trans HZa.out k1.size)
    replace HV12 := Lib.hid (And.intro (HV12.out.1.kept k1 (fun j e x => HOLD.out j (by have e' : gb = j := (by injection e); have := HV12.out.2; omega) x)) HV12.out.2)
    clear hq h1 k1 HC
    go_wp2
    refine hK.out _ _ (HSc.out) ?_
    clear hK K
    try simp only [Act.put, List.getElem_toArray, List.getElem_cons_succ, List.getElem_cons_zero, List.setIfInBounds_toArray, List.set_cons_zero, List.set_cons_succ]
    refine AnyBut.one (i := 13) (by kernel_rfl) rfl (fun K hK => ?_)
    have HC := Lib.hid (refAppend_any rb ao cp LR D' A (some ⟨gb, 0, none⟩) B.size cb (bl B) (bl_length B) (fun x hx => bl_lt hx) (by have := HS.out.2.2; omega) wc HHc.out.r HV12.out.1 (fun _ j e x => by have e' : gb = j := (by injection e); have h2 := HV12.out.2; have h3 := HRB.out; omega))
    rw [← HR.out.2] at HC
    go_simp
    go_wp2_with fail
    refine HC.out.mono ?_
    intro e wd hq
    obtain ⟨ao2, cp2, LR2, rfl, h2, k2⟩ := HHc.out.doc hq
    have HF := Lib.hid h2
    have HBd := Lib.hid (HBc.out.kept k2 (fun e => HQ.out.2 e))
    have HSd : Hid ((fun w' => w'.cell? ⟨q, 1, none⟩ = some (.string A) ∧ w'.cell? ⟨q, 2, none⟩ = some (.string B) ∧ w'.cell? ⟨q, 3, none⟩ = some (.int .i64 n) ∧ w'.cell? ⟨q, 5, none⟩ = some (.slice ka kn kc)) wd) := Lib.hid ⟨HBd.out.cell rfl, HBd.out.cell rfl, HBd.out.cell rfl, HBd.out.cell rfl⟩
    have HZd : Hid (w0.heap.size ≤ wd.heap.size) := Lib.hid (Nat.le_trans HZc.out k2.size)
    clear hq h2 k2 HC
    go_wp2
    refine hK.out _ _ (HSd.out) ?_
    clear hK K
    try simp only [Act.put, List.getElem_toArray, List.getElem_cons_succ, List.getElem_cons_zero, List.setIfInBounds_toArray, List.set_cons_zero, List.set_cons_succ]
    refine AnyBut.takeS (i := 14) (v := ?v71) rfl (by kernel_rfl) (Nat.le_of_eq (by kernel_rfl)) (by kernel_rfl) (by kernel_rfl) (fun _ _ _ h => h) (HSd.out) (Or.inl ⟨by kernel_rfl, ?hy71⟩) ?r71
    case hy71 =>
      intro w hSw
      try dsimp only at hSw
      go_simp
      first | (obtain ⟨y0, y1, y2, y3⟩ := hSw; go_simp) | skip
      try with_reducible rfl
    try simp only [Act.put, List.getElem_toArray, List.getElem_cons_succ, List.getElem_cons_zero, List.setIfInBounds_toArray, List.set_cons_zero, List.set_cons_succ]
    refine AnyBut.takeS (i := 15) (v := ?v72) rfl (by kernel_rfl) (Nat.le_of_eq (by kernel_rfl)) (by kernel_rfl) (by kernel_rfl) (fun _ _ _ h => h) (HSd.out) (Or.inl ⟨by kernel_rfl, ?hy72⟩) ?r72
    case hy72 =>
      intro w hSw
      try dsimp only at hSw
      go_simp
      first | (obtain ⟨y0, y1, y2, y3⟩ := hSw; go_simp) | skip
      try with_reducible rfl
    try simp only [Act.put, List.getElem_toArray, List.getElem_cons_succ, List.getElem_cons_zero, List.setIfInBounds_toArray, List.set_cons_zero, List.set_cons_succ]
    refine AnyBut.done (by kernel_rfl) ?_
    go_wp2
    go_ret
    rw [HX.out D, HX.out D', ← HR.out.1, ← HR.out.2]
    exact ⟨rfl, _, _, _, _, HF.out⟩
end Go.Proofs.Ytdhfalcjohfdkaa
