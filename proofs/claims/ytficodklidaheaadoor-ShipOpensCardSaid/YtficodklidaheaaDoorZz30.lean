/- Texts put together: X9, F12. -/
import Derived.Test.YtficodklidaheaaDoorZz19
import Derived.Test.YtficodklidaheaaDoorZz27
import Derived.Test.YtficodklidaheaaDoorZz29
import Derived.Test.YtficodklidaheaaDoorRows
import Derived.Test.YtficodklidaheaaDoorZz7
import Derived.Lib.LaidTab
import Derived.LaidMore
import Derived.LaidLaws
import Derived.Stop.Joined
/- Layer 25: the walk of ShipOpens (written by tools/gen_XX9.py). -/
namespace Go.Proofs.YtficodklidaheaaDoor
open Go.RowKit
attribute [local go_sem ↓] Go.wp_at_zero Go.wp_at_succ

theorem openF_or (r : DA × List Nat × Bool × Int) : ((openF r).2.1 = none ∧ (openF r).2.2 ≠ 0) ∨ ∃ a, (openF r).2.1 = some a ∧ (openF r).2.2 = 0 := by
  unfold openF
  by_cases h : r.2.2.2 ≠ 0
  · rw [if_pos h]
    exact .inl ⟨rfl, h⟩
  rw [if_neg h]
  by_cases h2 : r.2.2.1 = true
  · rw [if_pos h2]
    cases e : ackF r.2.1 with
    | none => exact .inl ⟨rfl, by simp⟩
    | some a => exact .inr ⟨a, rfl, rfl⟩
  · rw [if_neg h2]
    exact .inr ⟨0, rfl, rfl⟩
theorem sf_big (b : List Nat) (h : b.length ≤ 300) : (loadD (sf0 b) nmAck).2.1.length ≤ 100000000 := by
  rw [sf_load]
  unfold loadF
  dsimp only
  split
  · unfold payL
    rw [List.length_take, List.length_drop]
    omega
  · simp
theorem DK.downB4 {b0 base : Nat} {w : World} {db mb : Nat} {L : List (ByteArray × Fi)} {D : DA} (h : DK base w db mb L D) (hb : b0 ≤ base) : DK b0 w db mb L D :=
  ⟨h.box, h.map, h.perm, fun p hp => (h.data p hp).imp id (fun ⟨g, cur, h1, h2, h3⟩ => ⟨g, cur, h1, Nat.le_trans hb h2, h3⟩), h.sep, ⟨Nat.le_trans hb h.base.1, Nat.le_trans hb h.base.2⟩, h.ok⟩
set_option maxRecDepth 100000 in
set_option maxHeartbeats 8000000 in
theorem shipOpens_walk (ao : Option Addr) (len cap : Nat) (zs : List Int) (W : World) (hrow : IsRow .u8 W ao len cap zs) (HN : Nibs W) :
    Calls Tryd.prog 10 #[.slice ao len cap] W fun e w' => e = .returned (.bool true) ∧ Kept (fun _ => False) W w' := by
  have hb0 := nibs_pos2 HN
  have HNI := Lib.hid HN
  have hcap := (isRow_cap hrow).1
  have HAW := Lib.hid (awake25_any W HN)
  obtain ⟨l, hl, hwf, hsl⟩ := hrow.slAtN 256 wf_u8
  have HL := Lib.hid (And.intro hsl (And.intro hwf hcap))
  have HLL := Lib.hid hl
  clear hrow hsl hwf hcap hl HN
  by_cases h3 : 300 < len
  · have q3 : (300 : Int) < (len : Int) := by omega
    have q3' : decide (300 < len) = true := decide_eq_true h3
    clear h3
    go_enter Tryd.func10, Tryd.ntmps10
    go_wp2_with fail
    refine HAW.out.mono ?_
    rintro e w1 ⟨rfl, k1⟩
    have HK1 := Lib.hid k1
    clear k1
    go_wp2
    go_ret
    exact ⟨rfl, HK1.out⟩
  have q3 : ¬ (300 : Int) < (len : Int) := by omega
  have q3' : decide (300 < len) = false := decide_eq_false h3
  have HSM : Hid (l.length ≤ 300) := Lib.hid (by have := HLL.out; omega)
  clear h3
  go_enter Tryd.func10, Tryd.ntmps10
  go_wp2_with fail
  refine HAW.out.mono ?_
  rintro e w1 ⟨rfl, k1⟩
  obtain ⟨w2, hw2⟩ : ∃ w2, w2 = w1.alloc (.cells #[.string nmAck, .slice ao len cap] 46) := ⟨_, rfl⟩
  have k12 : Kept (fun _ => False) w1 w2 := by rw [hw2]; exact (Kept.refl _ _).alloc _
  have HK2 := Lib.hid (k1.trans k12)
  have HW2 : Hid (w2 = w1.alloc (.cells #[.string { data := #[97, 99, 107] }, .slice ao len cap] 46)) := Lib.hid hw2
  have HAT : Hid (GAt cellsA 2 w2 (some ⟨w1.heap.size, 0, none⟩) [⟨nmAck, ao, cap, l⟩]) := Lib.hid (fun _ => ⟨w1.heap.size, 0, rfl, fun i p hi j u hu => by
    cases i with
    | succ i => simp at hi
    | zero =>
      simp at hi
      subst hi
      rw [hw2, cell_of_row _ _ _ _ _ _ (heap_alloc_new w1 _), ← Array.getElem?_toList, show 0 + 0 * 2 + j = j by omega]
      unfold cellsA at hu
      dsimp only at hu
      rw [HLL.out] at hu
      exact hu⟩)
  have HOK : Hid (∀ w', Kept (fun _ => False) w2 w' → ∀ f ∈ [(⟨nmAck, ao, cap, l⟩ : AF)], f.Ok w') := Lib.hid (fun w' k f hf => by
    rcases List.mem_singleton.1 hf with rfl
    refine ⟨?_, HL.out.2.1, by show nmAck.size ≤ maxLen; unfold maxLen nmAck; decide, by have := HLL.out; have := HL.out.2.2; dsimp only; omega⟩
    dsimp only
    rw [HLL.out]
    exact HL.out.1.kept (HK2.out.trans k) (fun _ _ x => x))
  have HNW := Lib.hid (dNew_any (some ⟨w1.heap.size, 0, none⟩) 1 1 [⟨nmAck, ao, cap, l⟩] rfl 1000 (by decide) w2 HAT.out (HOK.out w2 (Kept.refl _ _)))
  have HRN := Lib.hid (fun w' (k : Kept (fun _ => False) w2 w') => refNew_any (some ⟨w1.heap.size, 0, none⟩) 1 1 [⟨nmAck, ao, cap, l⟩] rfl 1000 (by decide) w' (HAT.out.kept k) (HOK.out w' k))
  have e0 : List.map AF.t [⟨nmAck, ao, cap, l⟩] = [(nmAck, l)] := rfl
  rw [e0, sf_new l HSM.out] at HNW HRN
  have HK1 := Lib.hid k1
  clear e0 hw2 k12 k1
  go_wp2_with fail
  rw [← HW2.out]
  refine HNW.out.mono ?_
  rintro e w3 ⟨_, h3⟩
  obtain ⟨db, mb, L, rfl, h3, k3⟩ := h3 _ rfl
  have HD3 := Lib.hid h3
  have HK3 := Lib.hid k3
  clear h3 k3
  go_wp2_with fail
  refine (HRN.out w3 HK3.out).mono ?_
  rintro e w4 ⟨_, h4⟩
  obtain ⟨rb, ax, cx, LR, rfl, r4, k4, hrb, hft⟩ := h4 _ rfl
  have HH : Hid (Half W w4 db mb L rb ax cx LR (sf0 l) (sf0 l)) := Lib.hid ⟨(HD3.out.kept k4 (fun _ _ x => x)).downB4 HK2.out.size, r4, (fun k a b => by
    have h4 := (HD3.out.lt a)
    have h5 := HK2.out.size
    rcases hft k b with x | ⟨f, hf, h0, e⟩
    · omega
    · rcases List.mem_singleton.1 hf with rfl
      have := (HL.out.1.blk (byV_ne' h0) (by dsimp only at e; rw [HLL.out] at e; exact e)).1
      omega), Nat.le_trans (HK2.out.trans HK3.out).size hrb, HK2.out.trans (HK3.out.trans k4)⟩
  have HSO := Lib.hid (shOpen_any W.heap.size db mb hb0 L (sf0 l) w4 HH.out.d (HNI.out.kept HH.out.k) (fun b e => by rw [← e]; exact sf_big l HSM.out))
  obtain ⟨r, hr⟩ : ∃ r, r = openSh (sf0 l) := ⟨_, rfl⟩
  have hor : (r.2.1 = none ∧ r.2.2 ≠ 0) ∨ ∃ a, r.2.1 = some a ∧ r.2.2 = 0 := by rw [hr]; exact openF_or _
  have HRO := Lib.hid (fun w' (h : RK w' rb ax cx LR (sf0 l)) => refOpen25_any rb ax cx LR (sf0 l) w' h (sf_big l HSM.out))
  rw [← hr] at HSO HRO
  obtain ⟨D5, o, z⟩ := r
  dsimp only at hor HSO HRO
  have HOR := Lib.hid hor
  clear h4 r4 k4 hrb hft hr hor
  go_wp2_with fail
  refine HSO.out.mono ?_
  rintro e w5 ⟨L5, v, rfl, h5, k5, f5, hno, hsome⟩
  have HR5 := Lib.hid (HH.out.r.kept k5 (fun j a b => HH.out.sep j b a))
  have HK5 := Lib.hid (HH.out.k.newer k5 (fun j e => (HH.out.d.lt e).2))
  have HS5 := Lib.hid (And.intro hno hsome)
  have HRB := Lib.hid (show rb < w4.heap.size from HH.out.r.box.lt)
  clear h5 k5 f5 hno hsome
  go_wp2_with fail
  refine (HRO.out w5 HR5.out).mono ?_
  rintro e w6 ⟨a6, c6, L6, rfl, r6, k6, f6⟩
  dsimp only
  obtain ⟨gq, hgq⟩ : ∃ gq, gq = w6.heap.size := ⟨_, rfl⟩
  obtain ⟨a, ha⟩ : ∃ a, a = o.getD 0 := ⟨_, rfl⟩
  rw [← ha]
  obtain ⟨w7, hw7⟩ : ∃ w7, w7 = w6.alloc (.cells #[.int .i64 a, .bool false, .int .i64 z] 92) := ⟨_, rfl⟩
  have k67 : Kept (fun _ => False) w6 w7 := by rw [hw7]; exact (Kept.refl _ _).alloc _
  have bq : BoxAt w7 gq 92 #[.int .i64 a, .bool false, .int .i64 z] := by rw [hw7, hgq]; exact BoxAt.new _ _ _
  have k56 : Kept (fun k => k = rb) w5 w7 := k6.trans (k67.mono (fun _ _ x => x.elim))
  have HK7 := Lib.hid (HK5.out.newer (k56.trans ((Kept.refl _ w7).drew)) (fun j e => by rw [e]; exact HH.out.new))
  have HS0 : Hid ((fun w' => w'.cell? ⟨gq, 2, none⟩ = some (.int .i64 z) ∧ w'.cell? ⟨gq, 0, none⟩ = some (.int .i64 a)) w7.drew) := Lib.hid ⟨(bq.kept (S := fun _ => False) ((Kept.refl _ _).drew) (fun x => x)).cell rfl, (bq.kept (S := fun _ => False) ((Kept.refl _ _).drew) (fun x => x)).cell rfl⟩
  have HW7 := Lib.hid (And.intro hw7 hgq)
  have HA := Lib.hid ha
  rcases HOR.out with ⟨hn, hz⟩ | ⟨b, hb, hz⟩
  · have hv := HS5.out.1 hn
    subst hv
    have q1 : (z != 0) = true := by simp [hz]
    have q2 : (z == 0) = false := beq_eq_false_iff_ne.2 hz
    have d0 := bq.cell (i := 0) rfl
    have d2 := bq.cell (i := 2) rfl
    clear hn hz r6 k6 f6 hgq ha hw7 k67 bq k56
    go_upto_region 12 with fail
    rw [← HW7.out.1, ← HW7.out.2]
    refine AnyBut.start (S := fun w' => w'.cell? ⟨gq, 2, none⟩ = some (.int .i64 z) ∧ w'.cell? ⟨gq, 0, none⟩ = some (.int .i64 a)) (k := 23) (by kernel_rfl) ?_
    refine AnyBut.takeS (i := 0) (v := ?v23) rfl (by kernel_rfl) (Nat.le_of_eq (by kernel_rfl)) (by kernel_rfl) (by kernel_rfl) (fun _ _ _ h => h) (HS0.out) (Or.inl ⟨by kernel_rfl, ?hy23⟩) ?r23
    case hy23 =>
      intro w hSw
      try dsimp only at hSw
      go_simp
      first | (obtain ⟨y0, y1⟩ := hSw; go_simp) | skip
      try with_reducible rfl
    try simp only [Act.put, List.getElem_toArray, List.getElem_cons_zero, List.setIfInBounds_toArray, List.set_cons_zero, List.set_cons_succ]
    refine AnyBut.takeS (i := 1) (v := ?v24) rfl (by kernel_rfl) (Nat.le_of_eq (by kernel_rfl)) (by kernel_rfl) (by kernel_rfl) (fun _ _ _ h => h) (HS0.out) (Or.inl ⟨by kernel_rfl, ?hy24⟩) ?r24
    case hy24 =>
      intro w hSw
      try dsimp only at hSw
      go_simp
      first | (obtain ⟨y0, y1⟩ := hSw; go_simp) | skip
      try with_reducible rfl
    try simp only [Act.put, List.getElem_toArray, List.getElem_cons_succ, List.getElem_cons_zero, List.setIfInBounds_toArray, List.set_cons_zero, List.set_cons_succ]
    refine AnyBut.takeS (i := 2) (v := ?v25) rfl (by kernel_rfl) (Nat.le_of_eq (by kernel_rfl)) (by kernel_rfl) (by kernel_rfl) (fun _ _ _ h => h) (HS0.out) (Or.inl ⟨by kernel_rfl, ?hy25⟩) ?r25
    case hy25 =>
      intro w hSw
      try dsimp only at hSw
      go_simp
      first | (obtain ⟨y0, y1⟩ := hSw; go_simp) | skip
      try with_reducible rfl
    try simp only [Act.put, List.getElem_toArray, List.getElem_cons_succ, List.getElem_cons_zero, List.setIfInBounds_toArray, List.set_cons_zero, List.set_cons_succ]
    refine AnyBut.takeS (i := 3) (v := ?v26) rfl (by kernel_rfl) (Nat.le_of_eq (by kernel_rfl)) (by kernel_rfl) (by kernel_rfl) (fun _ _ _ h => h) (HS0.out) (Or.inl ⟨by kernel_rfl, ?hy26⟩) ?r26
    case hy26 =>
      intro w hSw
      try dsimp only at hSw
      go_simp
      first | (obtain ⟨y0, y1⟩ := hSw; go_simp) | skip
      try with_reducible rfl
    try simp only [Act.put, List.getElem_toArray, List.getElem_cons_succ, List.getElem_cons_zero, List.setIfInBounds_toArray, List.set_cons_zero, List.set_cons_succ]
    refine AnyBut.takeS (i := 4) (v := ?v27) rfl (by kernel_rfl) (Nat.le_of_eq (by kernel_rfl)) (by kernel_rfl) (by kernel_rfl) (fun _ _ _ h => h) (HS0.out) (Or.inl ⟨by kernel_rfl, ?hy27⟩) ?r27
    case hy27 =>
      intro w hSw
      try dsimp only at hSw
      go_simp
      first | (obtain ⟨y0, y1⟩ := hSw; go_simp) | skip
      try with_reducible rfl
    try simp only [Act.put, List.getElem_toArray, List.getElem_cons_succ, List.getElem_cons_zero, List.setIfInBounds_toArray, List.set_cons_zero, List.set_cons_succ]
    refine AnyBut.takeS (i := 5) (v := ?v28) rfl (by kernel_rfl) (Nat.le_of_eq (by kernel_rfl)) (by kernel_rfl) (by kernel_rfl) (fun _ _ _ h => h) (HS0.out) (Or.inl ⟨by kernel_rfl, ?hy28⟩) ?r28
    case hy28 =>
      intro w hSw
      try dsimp only at hSw
      go_simp
      first | (obtain ⟨y0, y1⟩ := hSw; go_simp) | skip
      try with_reducible rfl
    try simp only [Act.put, List.getElem_toArray, List.getElem_cons_succ, List.getElem_cons_zero, List.setIfInBounds_toArray, List.set_cons_zero, List.set_cons_succ]
    refine AnyBut.takeS (i := 6) (v := ?v29) rfl (by kernel_rfl) (Nat.le_of_eq (by kernel_rfl)) (by kernel_rfl) (by kernel_rfl) (fun _ _ _ h => h) (HS0.out) (Or.inl ⟨by kernel_rfl, ?hy29⟩) ?r29
    case hy29 =>
      intro w hSw
      try dsimp only at hSw
      go_simp
      first | (obtain ⟨y0, y1⟩ := hSw; go_simp) | skip
      try with_reducible rfl
    try simp only [Act.put, List.getElem_toArray, List.getElem_cons_succ, List.getElem_cons_zero, List.setIfInBounds_toArray, List.set_cons_zero, List.set_cons_succ]
    refine AnyBut.takeS (i := 7) (v := ?v30) rfl (by kernel_rfl) (Nat.le_of_eq (by kernel_rfl)) (by kernel_rfl) (by kernel_rfl) (fun _ _ _ h => h) (HS0.out) (Or.inl ⟨by kernel_rfl, ?hy30⟩) ?r30
    case hy30 =>
      intro w hSw
      try dsimp only at hSw
      go_simp
      first | (obtain ⟨y0, y1⟩ := hSw; go_simp) | skip
      try with_reducible rfl
    try simp only [Act.put, List.getElem_toArray, List.getElem_cons_succ, List.getElem_cons_zero, List.setIfInBounds_toArray, List.set_cons_zero, List.set_cons_succ]
    refine AnyBut.takeS (i := 8) (v := ?v31) rfl (by kernel_rfl) (Nat.le_of_eq (by kernel_rfl)) (by kernel_rfl) (by kernel_rfl) (fun _ _ _ h => h) (HS0.out) (Or.inl ⟨by kernel_rfl, ?hy31⟩) ?r31
    case hy31 =>
      intro w hSw
      try dsimp only at hSw
      go_simp
      first | (obtain ⟨y0, y1⟩ := hSw; go_simp) | skip
      try with_reducible rfl
    try simp only [Act.put, List.getElem_toArray, List.getElem_cons_succ, List.getElem_cons_zero, List.setIfInBounds_toArray, List.set_cons_zero, List.set_cons_succ]
    refine AnyBut.takeS (i := 9) (v := ?v32) rfl (by kernel_rfl) (Nat.le_of_eq (by kernel_rfl)) (by kernel_rfl) (by kernel_rfl) (fun _ _ _ h => h) (HS0.out) (Or.inl ⟨by kernel_rfl, ?hy32⟩) ?r32
    case hy32 =>
      intro w hSw
      try dsimp only at hSw
      go_simp
      first | (obtain ⟨y0, y1⟩ := hSw; go_simp) | skip
      try with_reducible rfl
    try simp only [Act.put, List.getElem_toArray, List.getElem_cons_succ, List.getElem_cons_zero, List.setIfInBounds_toArray, List.set_cons_zero, List.set_cons_succ]
    refine AnyBut.takeS (i := 10) (v := ?v33) rfl (by kernel_rfl) (Nat.le_of_eq (by kernel_rfl)) (by kernel_rfl) (by kernel_rfl) (fun _ _ _ h => h) (HS0.out) (Or.inl ⟨by kernel_rfl, ?hy33⟩) ?r33
    case hy33 =>
      intro w hSw
      try dsimp only at hSw
      go_simp
      first | (obtain ⟨y0, y1⟩ := hSw; go_simp) | skip
      try with_reducible rfl
    try simp only [Act.put, List.getElem_toArray, List.getElem_cons_succ, List.getElem_cons_zero, List.setIfInBounds_toArray, List.set_cons_zero, List.set_cons_succ]
    refine AnyBut.takeS (i := 11) (v := ?v34) rfl (by kernel_rfl) (Nat.le_of_eq (by kernel_rfl)) (by kernel_rfl) (by kernel_rfl) (fun _ _ _ h => h) (HS0.out) (Or.inl ⟨by kernel_rfl, ?hy34⟩) ?r34
    case hy34 =>
      intro w hSw
      try dsimp only at hSw
      go_simp
      first | (obtain ⟨y0, y1⟩ := hSw; go_simp) | skip
      try with_reducible rfl
    try simp only [Act.put, List.getElem_toArray, List.getElem_cons_succ, List.getElem_cons_zero, List.setIfInBounds_toArray, List.set_cons_zero, List.set_cons_succ]
    refine AnyBut.takeS (i := 12) (v := ?v35) rfl (by kernel_rfl) (Nat.le_of_eq (by kernel_rfl)) (by kernel_rfl) (by kernel_rfl) (fun _ _ _ h => h) (HS0.out) (Or.inl ⟨by kernel_rfl, ?hy35⟩) ?r35
    case hy35 =>
      intro w hSw
      try dsimp only at hSw
      go_simp
      first | (obtain ⟨y0, y1⟩ := hSw; go_simp) | skip
      try with_reducible rfl
    try simp only [Act.put, List.getElem_toArray, List.getElem_cons_succ, List.getElem_cons_zero, List.setIfInBounds_toArray, List.set_cons_zero, List.set_cons_succ]
    refine AnyBut.takeS (i := 13) (v := ?v36) rfl (by kernel_rfl) (Nat.le_of_eq (by kernel_rfl)) (by kernel_rfl) (by kernel_rfl) (fun _ _ _ h => h) (HS0.out) (Or.inl ⟨by kernel_rfl, ?hy36⟩) ?r36
    case hy36 =>
      intro w hSw
      try dsimp only at hSw
      go_simp
      first | (obtain ⟨y0, y1⟩ := hSw; go_simp) | skip
      try with_reducible rfl
    try simp only [Act.put, List.getElem_toArray, List.getElem_cons_succ, List.getElem_cons_zero, List.setIfInBounds_toArray, List.set_cons_zero, List.set_cons_succ]
    refine AnyBut.takeS (i := 14) (v := ?v37) rfl (by kernel_rfl) (Nat.le_of_eq (by kernel_rfl)) (by kernel_rfl) (by kernel_rfl) (fun _ _ _ h => h) (HS0.out) (Or.inl ⟨by kernel_rfl, ?hy37⟩) ?r37
    case hy37 =>
      intro w hSw
      try dsimp only at hSw
      go_simp
      first | (obtain ⟨y0, y1⟩ := hSw; go_simp) | skip
      try with_reducible rfl
    try simp only [Act.put, List.getElem_toArray, List.getElem_cons_succ, List.getElem_cons_zero, List.setIfInBounds_toArray, List.set_cons_zero, List.set_cons_succ]
    refine AnyBut.takeS (i := 15) (v := undef) rfl (by kernel_rfl) (Nat.le_of_eq (by kernel_rfl)) (by kernel_rfl) (by kernel_rfl) (fun _ _ _ h => h) (HS0.out) (Or.inr ⟨by kernel_rfl, rfl⟩) ?r38
    try simp only [Act.put, List.getElem_toArray, List.getElem_cons_succ, List.getElem_cons_zero, List.setIfInBounds_toArray, List.set_cons_zero, List.set_cons_succ]
    refine AnyBut.takeS (i := 16) (v := undef) rfl (by kernel_rfl) (Nat.le_of_eq (by kernel_rfl)) (by kernel_rfl) (by kernel_rfl) (fun _ _ _ h => h) (HS0.out) (Or.inr ⟨by kernel_rfl, rfl⟩) ?r39
    try simp only [Act.put, List.getElem_toArray, List.getElem_cons_succ, List.getElem_cons_zero, List.setIfInBounds_toArray, List.set_cons_zero, List.set_cons_succ]
    refine AnyBut.takeS (i := 17) (v := undef) rfl (by kernel_rfl) (Nat.le_of_eq (by kernel_rfl)) (by kernel_rfl) (by kernel_rfl) (fun _ _ _ h => h) (HS0.out) (Or.inr ⟨by kernel_rfl, rfl⟩) ?r40
    try simp only [Act.put, List.getElem_toArray, List.getElem_cons_succ, List.getElem_cons_zero, List.setIfInBounds_toArray, List.set_cons_zero, List.set_cons_succ]
    refine AnyBut.takeS (i := 18) (v := undef) rfl (by kernel_rfl) (Nat.le_of_eq (by kernel_rfl)) (by kernel_rfl) (by kernel_rfl) (fun _ _ _ h => h) (HS0.out) (Or.inr ⟨by kernel_rfl, rfl⟩) ?r41
    try simp only [Act.put, List.getElem_toArray, List.getElem_cons_succ, List.getElem_cons_zero, List.setIfInBounds_toArray, List.set_cons_zero, List.set_cons_succ]
    refine AnyBut.takeS (i := 19) (v := undef) rfl (by kernel_rfl) (Nat.le_of_eq (by kernel_rfl)) (by kernel_rfl) (by kernel_rfl) (fun _ _ _ h => h) (HS0.out) (Or.inr ⟨by kernel_rfl, rfl⟩) ?r42
    try simp only [Act.put, List.getElem_toArray, List.getElem_cons_succ, List.getElem_cons_zero, List.setIfInBounds_toArray, List.set_cons_zero, List.set_cons_succ]
    refine AnyBut.takeS (i := 20) (v := ?v43) rfl (by kernel_rfl) (Nat.le_of_eq (by kernel_rfl)) (by kernel_rfl) (by kernel_rfl) (fun _ _ _ h => h) (HS0.out) (Or.inl ⟨by kernel_rfl, ?hy43⟩) ?r43
    case hy43 =>
      intro w hSw
      try dsimp only at hSw
      go_simp
      first | (obtain ⟨y0, y1⟩ := hSw; go_simp) | skip
      try with_reducible rfl
    try simp only [Act.put, List.getElem_toArray, List.getElem_cons_succ, List.getElem_cons_zero, List.setIfInBounds_toArray, List.set_cons_zero, List.set_cons_succ]
    refine AnyBut.takeS (i := 21) (v := ?v44) rfl (by kernel_rfl) (Nat.le_of_eq (by kernel_rfl)) (by kernel_rfl) (by kernel_rfl) (fun _ _ _ h => h) (HS0.out) (Or.inl ⟨by kernel_rfl, ?hy44⟩) ?r44
    case hy44 =>
      intro w hSw
      try dsimp only at hSw
      go_simp
      first | (obtain ⟨y0, y1⟩ := hSw; go_simp) | skip
      try with_reducible rfl
    try simp only [Act.put, List.getElem_toArray, List.getElem_cons_succ, List.getElem_cons_zero, List.setIfInBounds_toArray, List.set_cons_zero, List.set_cons_succ]
    refine AnyBut.takeS (i := 22) (v := ?v45) rfl (by kernel_rfl) (Nat.le_of_eq (by kernel_rfl)) (by kernel_rfl) (by kernel_rfl) (fun _ _ _ h => h) (HS0.out) (Or.inl ⟨by kernel_rfl, ?hy45⟩) ?r45
    case hy45 =>
      intro w hSw
      try dsimp only at hSw
      go_simp
      first | (obtain ⟨y0, y1⟩ := hSw; go_simp) | skip
      try with_reducible rfl
    try simp only [Act.put, List.getElem_toArray, List.getElem_cons_succ, List.getElem_cons_zero, List.setIfInBounds_toArray, List.set_cons_zero, List.set_cons_succ]
    refine AnyBut.done (by kernel_rfl) ?_
    go_wp2
    go_ret
    exact ⟨rfl, HK7.out⟩
  · subst hz hb
    have hba : b = a := HA.out.symm
    subst hba
    obtain ⟨p, rfl, hb5, hp5, _⟩ := HS5.out.2 b rfl
    have HACK := Lib.hid (shAck_any p _ b w7.drew ((hb5.kept k56 (fun e => by have := HRB.out; omega)).kept (S := fun _ => False) ((Kept.refl _ _).drew) (fun x => x)))
    clear r6 k6 f6 hgq ha hw7 k67 bq k56 hb5 hp5
    go_upto_region 12 with fail
    rw [← HW7.out.1, ← HW7.out.2]
    refine AnyBut.start (S := fun w' => w'.cell? ⟨gq, 2, none⟩ = some (.int .i64 0) ∧ w'.cell? ⟨gq, 0, none⟩ = some (.int .i64 b)) (k := 23) (by kernel_rfl) ?_
    refine AnyBut.takeS (i := 0) (v := ?v1) rfl (by kernel_rfl) (Nat.le_of_eq (by kernel_rfl)) (by kernel_rfl) (by kernel_rfl) (fun _ _ _ h => h) (HS0.out) (Or.inl ⟨by kernel_rfl, ?hy1⟩) ?r1
    case hy1 =>
      intro w hSw
      try dsimp only at hSw
      go_simp
      first | (obtain ⟨y0, y1⟩ := hSw; go_simp) | skip
      try with_reducible rfl
    try simp only [Act.put, List.getElem_toArray, List.getElem_cons_zero, List.setIfInBounds_toArray, List.set_cons_zero, List.set_cons_succ]
    refine AnyBut.takeS (i := 1) (v := ?v2) rfl (by kernel_rfl) (Nat.le_of_eq (by kernel_rfl)) (by kernel_rfl) (by kernel_rfl) (fun _ _ _ h => h) (HS0.out) (Or.inl ⟨by kernel_rfl, ?hy2⟩) ?r2
    case hy2 =>
      intro w hSw
      try dsimp only at hSw
      go_simp
      first | (obtain ⟨y0, y1⟩ := hSw; go_simp) | skip
      try with_reducible rfl
    try simp only [Act.put, List.getElem_toArray, List.getElem_cons_succ, List.getElem_cons_zero, List.setIfInBounds_toArray, List.set_cons_zero, List.set_cons_succ]
    refine AnyBut.takeS (i := 2) (v := ?v3) rfl (by kernel_rfl) (Nat.le_of_eq (by kernel_rfl)) (by kernel_rfl) (by kernel_rfl) (fun _ _ _ h => h) (HS0.out) (Or.inl ⟨by kernel_rfl, ?hy3⟩) ?r3
    case hy3 =>
      intro w hSw
      try dsimp only at hSw
      go_simp
      first | (obtain ⟨y0, y1⟩ := hSw; go_simp) | skip
      try with_reducible rfl
    try simp only [Act.put, List.getElem_toArray, List.getElem_cons_succ, List.getElem_cons_zero, List.setIfInBounds_toArray, List.set_cons_zero, List.set_cons_succ]
    refine AnyBut.takeS (i := 3) (v := ?v4) rfl (by kernel_rfl) (Nat.le_of_eq (by kernel_rfl)) (by kernel_rfl) (by kernel_rfl) (fun _ _ _ h => h) (HS0.out) (Or.inl ⟨by kernel_rfl, ?hy4⟩) ?r4
    case hy4 =>
      intro w hSw
      try dsimp only at hSw
      go_simp
      first | (obtain ⟨y0, y1⟩ := hSw; go_simp) | skip
      try with_reducible rfl
    try simp only [Act.put, List.getElem_toArray, List.getElem_cons_succ, List.getElem_cons_zero, List.setIfInBounds_toArray, List.set_cons_zero, List.set_cons_succ]
    refine AnyBut.takeS (i := 4) (v := ?v5) rfl (by kernel_rfl) (Nat.le_of_eq (by kernel_rfl)) (by kernel_rfl) (by kernel_rfl) (fun _ _ _ h => h) (HS0.out) (Or.inl ⟨by kernel_rfl, ?hy5⟩) ?r5
    case hy5 =>
      intro w hSw
      try dsimp only at hSw
      go_simp
      first | (obtain ⟨y0, y1⟩ := hSw; go_simp) | skip
      try with_reducible rfl
    try simp only [Act.put, List.getElem_toArray, List.getElem_cons_succ, List.getElem_cons_zero, List.setIfInBounds_toArray, List.set_cons_zero, List.set_cons_succ]
    refine AnyBut.takeS (i := 5) (v := ?v6) rfl (by kernel_rfl) (Nat.le_of_eq (by kernel_rfl)) (by kernel_rfl) (by kernel_rfl) (fun _ _ _ h => h) (HS0.out) (Or.inl ⟨by kernel_rfl, ?hy6⟩) ?r6
    case hy6 =>
      intro w hSw
      try dsimp only at hSw
      go_simp
      first | (obtain ⟨y0, y1⟩ := hSw; go_simp) | skip
      try with_reducible rfl
    try simp only [Act.put, List.getElem_toArray, List.getElem_cons_succ, List.getElem_cons_zero, List.setIfInBounds_toArray, List.set_cons_zero, List.set_cons_succ]
    refine AnyBut.takeS (i := 6) (v := ?v7) rfl (by kernel_rfl) (Nat.le_of_eq (by kernel_rfl)) (by kernel_rfl) (by kernel_rfl) (fun _ _ _ h => h) (HS0.out) (Or.inl ⟨by kernel_rfl, ?hy7⟩) ?r7
    case hy7 =>
      intro w hSw
      try dsimp only at hSw
      go_simp
      first | (obtain ⟨y0, y1⟩ := hSw; go_simp) | skip
      try with_reducible rfl
    try simp only [Act.put, List.getElem_toArray, List.getElem_cons_succ, List.getElem_cons_zero, List.setIfInBounds_toArray, List.set_cons_zero, List.set_cons_succ]
    refine AnyBut.takeS (i := 7) (v := ?v8) rfl (by kernel_rfl) (Nat.le_of_eq (by kernel_rfl)) (by kernel_rfl) (by kernel_rfl) (fun _ _ _ h => h) (HS0.out) (Or.inl ⟨by kernel_rfl, ?hy8⟩) ?r8
    case hy8 =>
      intro w hSw
      try dsimp only at hSw
      go_simp
      first | (obtain ⟨y0, y1⟩ := hSw; go_simp) | skip
      try with_reducible rfl
    try simp only [Act.put, List.getElem_toArray, List.getElem_cons_succ, List.getElem_cons_zero, List.setIfInBounds_toArray, List.set_cons_zero, List.set_cons_succ]
    refine AnyBut.takeS (i := 8) (v := ?v9) rfl (by kernel_rfl) (Nat.le_of_eq (by kernel_rfl)) (by kernel_rfl) (by kernel_rfl) (fun _ _ _ h => h) (HS0.out) (Or.inl ⟨by kernel_rfl, ?hy9⟩) ?r9
    case hy9 =>
      intro w hSw
      try dsimp only at hSw
      go_simp
      first | (obtain ⟨y0, y1⟩ := hSw; go_simp) | skip
      try with_reducible rfl
    try simp only [Act.put, List.getElem_toArray, List.getElem_cons_succ, List.getElem_cons_zero, List.setIfInBounds_toArray, List.set_cons_zero, List.set_cons_succ]
    refine AnyBut.takeS (i := 9) (v := ?v10) rfl (by kernel_rfl) (Nat.le_of_eq (by kernel_rfl)) (by kernel_rfl) (by kernel_rfl) (fun _ _ _ h => h) (HS0.out) (Or.inl ⟨by kernel_rfl, ?hy10⟩) ?r10
    case hy10 =>
      intro w hSw
      try dsimp only at hSw
      go_simp
      first | (obtain ⟨y0, y1⟩ := hSw; go_simp) | skip
      try with_reducible rfl
    try simp only [Act.put, List.getElem_toArray, List.getElem_cons_succ, List.getElem_cons_zero, List.setIfInBounds_toArray, List.set_cons_zero, List.set_cons_succ]
    refine AnyBut.takeS (i := 10) (v := ?v11) rfl (by kernel_rfl) (Nat.le_of_eq (by kernel_rfl)) (by kernel_rfl) (by kernel_rfl) (fun _ _ _ h => h) (HS0.out) (Or.inl ⟨by kernel_rfl, ?hy11⟩) ?r11
    case hy11 =>
      intro w hSw
      try dsimp only at hSw
      go_simp
      first | (obtain ⟨y0, y1⟩ := hSw; go_simp) | skip
      try with_reducible rfl
    try simp only [Act.put, List.getElem_toArray, List.getElem_cons_succ, List.getElem_cons_zero, List.setIfInBounds_toArray, List.set_cons_zero, List.set_cons_succ]
    refine AnyBut.takeS (i := 11) (v := ?v12) rfl (by kernel_rfl) (Nat.le_of_eq (by kernel_rfl)) (by kernel_rfl) (by kernel_rfl) (fun _ _ _ h => h) (HS0.out) (Or.inl ⟨by kernel_rfl, ?hy12⟩) ?r12
    case hy12 =>
      intro w hSw
      try dsimp only at hSw
      go_simp
      first | (obtain ⟨y0, y1⟩ := hSw; go_simp) | skip
      try with_reducible rfl
    try simp only [Act.put, List.getElem_toArray, List.getElem_cons_succ, List.getElem_cons_zero, List.setIfInBounds_toArray, List.set_cons_zero, List.set_cons_succ]
    refine AnyBut.takeS (i := 12) (v := ?v13) rfl (by kernel_rfl) (Nat.le_of_eq (by kernel_rfl)) (by kernel_rfl) (by kernel_rfl) (fun _ _ _ h => h) (HS0.out) (Or.inl ⟨by kernel_rfl, ?hy13⟩) ?r13
    case hy13 =>
      intro w hSw
      try dsimp only at hSw
      go_simp
      first | (obtain ⟨y0, y1⟩ := hSw; go_simp) | skip
      try with_reducible rfl
    try simp only [Act.put, List.getElem_toArray, List.getElem_cons_succ, List.getElem_cons_zero, List.setIfInBounds_toArray, List.set_cons_zero, List.set_cons_succ]
    refine AnyBut.takeS (i := 13) (v := ?v14) rfl (by kernel_rfl) (Nat.le_of_eq (by kernel_rfl)) (by kernel_rfl) (by kernel_rfl) (fun _ _ _ h => h) (HS0.out) (Or.inl ⟨by kernel_rfl, ?hy14⟩) ?r14
    case hy14 =>
      intro w hSw
      try dsimp only at hSw
      go_simp
      first | (obtain ⟨y0, y1⟩ := hSw; go_simp) | skip
      try with_reducible rfl
    try simp only [Act.put, List.getElem_toArray, List.getElem_cons_succ, List.getElem_cons_zero, List.setIfInBounds_toArray, List.set_cons_zero, List.set_cons_succ]
    refine AnyBut.takeS (i := 14) (v := ?v15) rfl (by kernel_rfl) (Nat.le_of_eq (by kernel_rfl)) (by kernel_rfl) (by kernel_rfl) (fun _ _ _ h => h) (HS0.out) (Or.inl ⟨by kernel_rfl, ?hy15⟩) ?r15
    case hy15 =>
      intro w hSw
      try dsimp only at hSw
      go_simp
      first | (obtain ⟨y0, y1⟩ := hSw; go_simp) | skip
      try with_reducible rfl
    try simp only [Act.put, List.getElem_toArray, List.getElem_cons_succ, List.getElem_cons_zero, List.setIfInBounds_toArray, List.set_cons_zero, List.set_cons_succ]
    refine AnyBut.takeS (i := 15) (v := ?v16) rfl (by kernel_rfl) (Nat.le_of_eq (by kernel_rfl)) (by kernel_rfl) (by kernel_rfl) (fun _ _ _ h => h) (HS0.out) (Or.inl ⟨by kernel_rfl, ?hy16⟩) ?r16
    case hy16 =>
      intro w hSw
      try dsimp only at hSw
      go_simp
      first | (obtain ⟨y0, y1⟩ := hSw; go_simp) | skip
      try with_reducible rfl
    try simp only [Act.put, List.getElem_toArray, List.getElem_cons_succ, List.getElem_cons_zero, List.setIfInBounds_toArray, List.set_cons_zero, List.set_cons_succ]
    refine AnyBut.takeS (i := 17) (v := ?v17) rfl (by kernel_rfl) (Nat.le_of_eq (by kernel_rfl)) (by kernel_rfl) (by kernel_rfl) (fun _ _ _ h => h) (HS0.out) (Or.inl ⟨by kernel_rfl, ?hy17⟩) ?r17
    case hy17 =>
      intro w hSw
      try dsimp only at hSw
      go_simp
      first | (obtain ⟨y0, y1⟩ := hSw; go_simp) | skip
      try with_reducible rfl
    try simp only [Act.put, List.getElem_toArray, List.getElem_cons_succ, List.getElem_cons_zero, List.setIfInBounds_toArray, List.set_cons_zero, List.set_cons_succ]
    refine AnyBut.takeS (i := 18) (v := ?v18) rfl (by kernel_rfl) (Nat.le_of_eq (by kernel_rfl)) (by kernel_rfl) (by kernel_rfl) (fun _ _ _ h => h) (HS0.out) (Or.inl ⟨by kernel_rfl, ?hy18⟩) ?r18
    case hy18 =>
      intro w hSw
      try dsimp only at hSw
      go_simp
      first | (obtain ⟨y0, y1⟩ := hSw; go_simp) | skip
      try with_reducible rfl
    try simp only [Act.put, List.getElem_toArray, List.getElem_cons_succ, List.getElem_cons_zero, List.setIfInBounds_toArray, List.set_cons_zero, List.set_cons_succ]
    refine AnyBut.one (i := 16) (by kernel_rfl) rfl (fun K hK => ?_)
    go_simp
    go_wp2_with fail
    refine HACK.out.mono ?_
    rintro e w9 ⟨rfl, rfl⟩
    go_wp2
    refine hK.out _ _ (HS0.out) ?_
    clear hK K
    try simp only [Act.put, List.getElem_toArray, List.getElem_cons_succ, List.getElem_cons_zero, List.setIfInBounds_toArray, List.set_cons_zero, List.set_cons_succ]
    refine AnyBut.takeS (i := 19) (v := ?v19) rfl (by kernel_rfl) (Nat.le_of_eq (by kernel_rfl)) (by kernel_rfl) (by kernel_rfl) (fun _ _ _ h => h) (HS0.out) (Or.inl ⟨by kernel_rfl, ?hy19⟩) ?r19
    case hy19 =>
      intro w hSw
      try dsimp only at hSw
      go_simp
      first | (obtain ⟨y0, y1⟩ := hSw; go_simp) | skip
      try with_reducible rfl
    try simp only [Act.put, List.getElem_toArray, List.getElem_cons_succ, List.getElem_cons_zero, List.setIfInBounds_toArray, List.set_cons_zero, List.set_cons_succ]
    refine AnyBut.takeS (i := 20) (v := ?v20) rfl (by kernel_rfl) (Nat.le_of_eq (by kernel_rfl)) (by kernel_rfl) (by kernel_rfl) (fun _ _ _ h => h) (HS0.out) (Or.inl ⟨by kernel_rfl, ?hy20⟩) ?r20
    case hy20 =>
      intro w hSw
      try dsimp only at hSw
      go_simp
      first | (obtain ⟨y0, y1⟩ := hSw; go_simp) | skip
      try with_reducible rfl
    try simp only [Act.put, List.getElem_toArray, List.getElem_cons_succ, List.getElem_cons_zero, List.setIfInBounds_toArray, List.set_cons_zero, List.set_cons_succ]
    refine AnyBut.takeS (i := 21) (v := ?v21) rfl (by kernel_rfl) (Nat.le_of_eq (by kernel_rfl)) (by kernel_rfl) (by kernel_rfl) (fun _ _ _ h => h) (HS0.out) (Or.inl ⟨by kernel_rfl, ?hy21⟩) ?r21
    case hy21 =>
      intro w hSw
      try dsimp only at hSw
      go_simp
      first | (obtain ⟨y0, y1⟩ := hSw; go_simp) | skip
      try with_reducible rfl
    try simp only [Act.put, List.getElem_toArray, List.getElem_cons_succ, List.getElem_cons_zero, List.setIfInBounds_toArray, List.set_cons_zero, List.set_cons_succ]
    refine AnyBut.takeS (i := 22) (v := ?v22) rfl (by kernel_rfl) (Nat.le_of_eq (by kernel_rfl)) (by kernel_rfl) (by kernel_rfl) (fun _ _ _ h => h) (HS0.out) (Or.inl ⟨by kernel_rfl, ?hy22⟩) ?r22
    case hy22 =>
      intro w hSw
      try dsimp only at hSw
      go_simp
      first | (obtain ⟨y0, y1⟩ := hSw; go_simp) | skip
      try with_reducible rfl
    try simp only [Act.put, List.getElem_toArray, List.getElem_cons_succ, List.getElem_cons_zero, List.setIfInBounds_toArray, List.set_cons_zero, List.set_cons_succ]
    refine AnyBut.done (by kernel_rfl) ?_
    go_wp2
    go_ret
    exact ⟨rfl, HK7.out⟩
end Go.Proofs.YtficodklidaheaaDoor
/- What the listed variable gives the walks. -/
namespace Go.Proofs.YtficodklidaheaaDoor
open Go.ChangeShapes Go.WideShapes Go.ChangeAt Go.RowKit

theorem gNib : Tryd.prog.globalNamed "limnograph/crc.nibbles" = some 0 := by kernel_rfl
theorem tNib : (Tryd.prog.globals[0]?).map (·.type) = some 142 := by kernel_rfl
theorem door_met (os : Os) (args : Array Value) : laidMetH Tryd.prog [("limnograph/crc.nibbles", Rows.laid_limnograph_crc_nibbles)] ((World.doorLaid Tryd.prog 400 os).forCall (fun _ _ => 0) ⟨#[], args, []⟩).memory :=
  laidMetH_of_parts3 (fuel := 8) (laidMet_of_run' 8 (by kernel_rfl) (by kernel_rfl)) (by kernel_rfl) (by kernel_rfl)
theorem nibs_of_laid {W : World} (h : laidMetH Tryd.prog [("limnograph/crc.nibbles", Rows.laid_limnograph_crc_nibbles)] W) : Nibs W := by
  rw [MakeChecks.laidMetH_plain _ _ _ (by kernel_rfl)] at h
  obtain ⟨ps, ⟨g0, t0, cs0, f0, p0, q0, hg0, ht0, hv0, hd0, _, _⟩, _, _⟩ := h
  obtain rfl := Option.some.inj (gNib.symm.trans hg0)
  obtain rfl := Option.some.inj (tNib.symm.trans ht0)
  have hcs := Lib.cells_of_tab (zs := nibL.map fun (x : Nat) => (x : Int)) Tryd.underlying142 Tryd.underlying104 (by kernel_rfl) (by kernel_rfl) hd0
  intro j hj
  have hc := World.var?_cell hg0 hv0 j
  rw [hc]
  have e : cs0[j]? = cs0.toList[j]? := by simp
  rw [e, hcs]
  have hl : j < nibL.length := hj
  simp [List.getElem?_map, List.getElem?_eq_getElem hl, List.getD_eq_getElem?_getD]
end Go.Proofs.YtficodklidaheaaDoor
