/- Texts put together: WL. -/
import Derived.Test.YtficodklidaheaaDoorZz25
/- Layer 19: the walk of WalOpens, where the file is there (written by tools/gen_XWJ.py). -/
namespace Go.Proofs.YtficodklidaheaaDoor
open Go.RowKit
attribute [local go_sem ↓] Go.wp_at_zero Go.wp_at_succ


set_option maxRecDepth 100000 in
set_option maxHeartbeats 8000000 in
theorem opens_ok (ao : Option Addr) (cap : Nat) (s : ByteArray) (l : List Nat) (Ls : List (List Nat)) (u n : Nat) (W : World) (HN : Nibs W) (HB : Row8 W (.slice ao l.length cap) l) (hcap : l.length ≤ cap) (h3 : ¬ 3000 < l.length) (h4 : ¬ 100 < s.size) (hsc : ScanR l Ls u n) (hn : n = 0 ∨ n = 2) :
    Calls Tryd.prog 6 #[.slice ao l.length cap, .bool true, .string s] W fun e w' => e = .returned (.bool true) ∧ Kept (fun _ => False) W w' := by
  have HAW := Lib.hid (awake19_any W HN)
  have hb0 := nibs_pos HN
  have HNI := Lib.hid HN
  obtain ⟨len, hlen⟩ : ∃ len, len = l.length := ⟨_, rfl⟩
  have HLN := Lib.hid hlen
  have q3 : ¬ (3000 : Int) < (len : Int) := by omega
  have q4 : ¬ (100 : Int) < (s.size : Int) := by omega
  have HSC := Lib.hid (And.intro hsc (And.intro hn hcap))
  have HBB := Lib.hid (fun w' (k : Kept (fun _ => False) W w') => HB.kept k)
  have HBL := Lib.hid HB.lt
  have h3' : l.length ≤ 3000 := by omega
  have HL3 := Lib.hid h3'
  rw [← hlen] at HBB ⊢
  clear HN h3 h4 HB hcap hsc hn hlen h3'
  go_enter Tryd.func6, Tryd.ntmps6
  go_wp2_with fail
  refine HAW.out.mono ?_
  rintro e w1 ⟨rfl, k1⟩
  have HK1 := Lib.hid k1
  obtain ⟨w2, hw2⟩ : ∃ w2, w2 = w1.alloc (.cells #[.string nmW, .slice ao len cap] 46) := ⟨_, rfl⟩
  have k2 : Kept (fun _ => False) w1 w2 := by rw [hw2]; exact (Kept.refl _ _).alloc _
  have HK2 := Lib.hid (HK1.out.trans k2)
  have HNEW := Lib.hid (dNew_any (some ⟨w1.heap.size, 0, none⟩) 1 1 [⟨nmW, ao, cap, l⟩] rfl 10000 (by decide) w2 (by rw [hw2, HLN.out]; exact wo_row w1 ao cap l) (fun f hf => by
    rcases List.mem_singleton.1 hf with rfl
    exact ⟨row8_slAt (HBB.out w2 HK2.out), HBL.out, wv_size, HSC.out.2.2⟩))
  rw [show List.map AF.t [⟨nmW, ao, cap, l⟩] = [(nmW, l)] from rfl, wo_new1 HL3.out] at HNEW
  rw [show Value.string nmW = Value.string { data := #[119] } from rfl] at hw2
  have HW2 := Lib.hid hw2
  clear k1 k2 hw2
  go_wp2_with fail
  rw [← HW2.out]
  refine HNEW.out.mono ?_
  rintro e w3 ⟨_, h2⟩
  obtain ⟨db, mb, L, rfl, h3, k3⟩ := h2 _ rfl
  have HK3 := Lib.hid (HK2.out.trans k3)
  have HD3 := Lib.hid h3
  have HBS := Lib.hid HK2.out.size
  obtain ⟨hwr, hwc⟩ := wo_end (l := l) (u := u) (HSC.out.1.lt HBL.out).2
  have HOP := Lib.hid (wOpen_there w2.heap.size db mb L (wo1 l) nmW wv_size ⟨l, l.length⟩ Ls u n w3 h3 rfl rfl (by have := HL3.out; dsimp only; omega) HSC.out.1 HSC.out.2.1 hwc (HNI.out.kept HK3.out))
  dsimp only at HOP
  rw [show (if u < l.length then (cutD (wo1 l) nmW u).1 else wo1 l) = woEnd l u from rfl, show nmW = { data := #[119] } from rfl] at HOP
  have HWR := Lib.hid hwr
  clear h2 h3 k3 hwr hwc
  go_wp2_with fail
  refine HOP.out.mono ?_
  rintro e w4 ⟨L4, lb, v, B, H, rfl, h4, k4, f4, hlog, hB, hlb, hH, hg, _⟩
  have HRG := Lib.hid hg.at_
  obtain ⟨va, vc, hv, _⟩ := hg
  subst hv
  obtain ⟨m, hm⟩ : ∃ m, m = Ls.length := ⟨_, rfl⟩
  rw [← hm] at HRG hlog ⊢
  have HMM := Lib.hid hm
  have HK4 := Lib.hid (HK3.out.newer k4 (fun j e => Nat.le_trans HBS.out (HD3.out.lt e).2))
  have HLOG := Lib.hid hlog
  have HREC := Lib.hid (refRecords_any ao cap l (by have := HL3.out; omega) HSC.out.2.2 w4 (by rw [← HLN.out]; exact HBB.out w4 HK4.out))
  rw [← HLN.out] at HREC
  have HD4 := Lib.hid h4
  clear h4 k4 f4 hlog hB hlb hH hm
  go_wp2_with fail
  refine HREC.out.mono ?_
  rintro e w5 ⟨Ls2, u2, n2, hsc2, k5, ⟨hn2, v, rfl, hr⟩ | ⟨hn2, rfl⟩⟩
  case inr =>
    obtain ⟨rfl, rfl, rfl⟩ := hsc2.fn HSC.out.1
    exact absurd HSC.out.2.1 (fun e => e.elim hn2.1 hn2.2)
  obtain ⟨rfl, rfl, rfl⟩ := HSC.out.1.fn hsc2
  have HRR := Lib.hid hr
  obtain ⟨ra, rc, hv3, _⟩ := hr
  subst hv3
  rw [← HMM.out] at HRR ⊢
  obtain ⟨w6, hw6⟩ : ∃ w6, w6 = w5.alloc (.cells #[.slice ra m rc, .int .i64 (u : Int), .int .i64 0] 43) := ⟨_, rfl⟩
  obtain ⟨g, hg⟩ : ∃ g, g = w5.heap.size := ⟨_, rfl⟩
  have k6 : Kept (fun _ => False) w5 w6 := by rw [hw6]; exact (Kept.refl _ _).alloc _
  have b6 : BoxAt w6 g 43 #[.slice ra m rc, .int .i64 (u : Int), .int .i64 0] := by rw [hw6, hg]; exact BoxAt.new _ _ _
  have HW6 := Lib.hid (And.intro hw6 hg)
  have HB6 := Lib.hid b6
  have HK6 := Lib.hid (HK4.out.trans (k5.trans k6))
  have HR6 := Lib.hid (HRR.out.kept k6)
  have HG6 := Lib.hid (HRG.out.kept (k5.trans k6))
  have HL6 := Lib.hid (HLOG.out.kept (k5.trans k6) (fun x => x))
  have HRD := Lib.hid (dRead_any w2.heap.size db mb L4 (woEnd l u) nmW wv_size w6 (HD4.out.kept (k5.trans k6) (fun _ _ x => x)))
  rw [HWR.out, show nmW = { data := #[119] } from rfl] at HRD
  clear hsc2 k5 hn2 hw6 hg k6 b6
  go_upto_region 18 with fail
  rw [← HW6.out.1, ← HW6.out.2]
  go_wp2_with fail
  refine HRD.out.mono ?_
  rintro e w7 ⟨ca, cc, rfl, hm7⟩
  have HM7 := Lib.hid hm7.kept
  have HC7 := Lib.hid (slAt_row8 hm7.at_ (fun x hx => HBL.out x (List.mem_of_mem_take hx)))
  dsimp only at HC7 ⊢
  obtain ⟨z, hz⟩ : ∃ z, z = (l.take u).length := ⟨_, rfl⟩
  rw [← hz] at HC7 ⊢
  obtain ⟨T, hT⟩ : ∃ T, T = strN (l.take u) := ⟨_, rfl⟩
  have qT : (T.toList == T.toList) = true := beq_self_eq_true _
  have hub := (HSC.out.1.lt HBL.out).2
  have HTT := Lib.hid (And.intro hT hub)
  have HKD : Hid (Kept (fun _ => False) w7 w7.drew) := Lib.hid ((Kept.refl _ _).drew)
  have HSK : Hid (∀ w', Kept (fun _ => False) w7 w' → (fun w' => w'.cell? ⟨g, 0, none⟩ = some (.slice ra m rc) ∧ w'.cell? ⟨g, 1, none⟩ = some (.int .i64 (u : Int)) ∧ (convert 22 9 (.slice ca z cc)).run Tryd.prog w' = .ok (.string T) w' ∧ (convert 22 9 (.slice ao u cap)).run Tryd.prog w' = .ok (.string T) w') w') := Lib.hid (fun w' k => ⟨(HB6.out.kept (HM7.out.trans k) (fun x => x)).cell rfl, (HB6.out.kept (HM7.out.trans k) (fun x => x)).cell rfl, by rw [HTT.out.1]; exact conv8 (HC7.out.kept k), by rw [HTT.out.1]; exact conv8 (row8_take (HBB.out w' ((HK6.out.trans HM7.out).trans k)) u HTT.out.2)⟩)
  have HSS := Lib.hid (HSK.out _ HKD.out)
  have HRA : Hid (∀ w', Kept (fun _ => False) w7 w' → RowsAt w' (.slice va m vc) Ls) := Lib.hid (fun w' k => HG6.out.kept (HM7.out.trans k))
  have HRB : Hid (∀ w', Kept (fun _ => False) w7 w' → RowsAt w' (.slice ra m rc) Ls) := Lib.hid (fun w' k => HR6.out.kept (HM7.out.trans k))
  have HLL : Hid (Ls.length ≤ 1000000000) := Lib.hid (by have := HSC.out.1.few; have := HL3.out; omega)
  have HLE := Lib.hid (fun w' (k : Kept (fun _ => False) w7 w') => wLen_any db lb { data := #[119] } _ _ w' (HL6.out.kept (HM7.out.trans k) (fun x => x)))
  have HSI := Lib.hid (fun w' (k : Kept (fun _ => False) w7 w') => wSize_any db lb { data := #[119] } _ _ w' (HL6.out.kept (HM7.out.trans k) (fun x => x)))
  have d2 := (HB6.out.kept HM7.out (fun x => x)).cell (i := 2) (u := .int .i64 0) rfl
  obtain ⟨iU, hiU, _⟩ := Option.map_eq_some_iff.1 Tryd.infoU8
  have hca := fun w => run_cutHr (P := Tryd.prog) Tryd.underlying22 hiU ao len cap u (by have := HSC.out.2.2; omega) w
  have hcb := fun w => run_cutHrAt (P := Tryd.prog) Tryd.underlying22 hiU ao len cap u (by have := HSC.out.2.2; omega) w
  clear hm7 hz hT hub
  go_upto_region 21 with fail
  refine AnyBut.start (S := fun w' => w'.cell? ⟨g, 0, none⟩ = some (.slice ra m rc) ∧ w'.cell? ⟨g, 1, none⟩ = some (.int .i64 (u : Int)) ∧ (convert 22 9 (.slice ca z cc)).run Tryd.prog w' = .ok (.string T) w' ∧ (convert 22 9 (.slice ao u cap)).run Tryd.prog w' = .ok (.string T) w') (k := 38) (by kernel_rfl) ?_
  refine AnyBut.takeS (i := 0) (v := ?v1) rfl (by kernel_rfl) (Nat.le_of_eq (by kernel_rfl)) (by kernel_rfl) (by kernel_rfl) (fun _ _ _ h => h) (HSS.out) (Or.inl ⟨by kernel_rfl, ?hy1⟩) ?r1
  case hy1 =>
    intro w hSw
    try dsimp only at hSw
    go_simp
    first | (obtain ⟨y0, y1, y2, y3⟩ := hSw; go_simp) | skip
    try with_reducible rfl
  try simp only [Act.put, List.getElem_toArray, List.getElem_cons_zero, List.setIfInBounds_toArray, List.set_cons_zero, List.set_cons_succ]
  refine AnyBut.takeS (i := 1) (v := ?v2) rfl (by kernel_rfl) (Nat.le_of_eq (by kernel_rfl)) (by kernel_rfl) (by kernel_rfl) (fun _ _ _ h => h) (HSS.out) (Or.inl ⟨by kernel_rfl, ?hy2⟩) ?r2
  case hy2 =>
    intro w hSw
    try dsimp only at hSw
    go_simp
    first | (obtain ⟨y0, y1, y2, y3⟩ := hSw; go_simp) | skip
    try with_reducible rfl
  try simp only [Act.put, List.getElem_toArray, List.getElem_cons_succ, List.getElem_cons_zero, List.setIfInBounds_toArray, List.set_cons_zero, List.set_cons_succ]
  refine AnyBut.takeS (i := 2) (v := ?v3) rfl (by kernel_rfl) (Nat.le_of_eq (by kernel_rfl)) (by kernel_rfl) (by kernel_rfl) (fun _ _ _ h => h) (HSS.out) (Or.inl ⟨by kernel_rfl, ?hy3⟩) ?r3
  case hy3 =>
    intro w hSw
    try dsimp only at hSw
    go_simp
    first | (obtain ⟨y0, y1, y2, y3⟩ := hSw; go_simp) | skip
    try with_reducible rfl
  try simp only [Act.put, List.getElem_toArray, List.getElem_cons_succ, List.getElem_cons_zero, List.setIfInBounds_toArray, List.set_cons_zero, List.set_cons_succ]
  refine AnyBut.takeS (i := 3) (v := ?v4) rfl (by kernel_rfl) (Nat.le_of_eq (by kernel_rfl)) (by kernel_rfl) (by kernel_rfl) (fun _ _ _ h => h) (HSS.out) (Or.inl ⟨by kernel_rfl, ?hy4⟩) ?r4
  case hy4 =>
    intro w hSw
    try dsimp only at hSw
    go_simp
    first | (obtain ⟨y0, y1, y2, y3⟩ := hSw; go_simp) | skip
    try with_reducible rfl
  try simp only [Act.put, List.getElem_toArray, List.getElem_cons_succ, List.getElem_cons_zero, List.setIfInBounds_toArray, List.set_cons_zero, List.set_cons_succ]
  refine AnyBut.takeS (i := 4) (v := ?v5) rfl (by kernel_rfl) (Nat.le_of_eq (by kernel_rfl)) (by kernel_rfl) (by kernel_rfl) (fun _ _ _ h => h) (HSS.out) (Or.inl ⟨by kernel_rfl, ?hy5⟩) ?r5
  case hy5 =>
    intro w hSw
    try dsimp only at hSw
    go_simp
    first | (obtain ⟨y0, y1, y2, y3⟩ := hSw; go_simp) | skip
    try with_reducible rfl
  try simp only [Act.put, List.getElem_toArray, List.getElem_cons_succ, List.getElem_cons_zero, List.setIfInBounds_toArray, List.set_cons_zero, List.set_cons_succ]
  refine AnyBut.takeS (i := 5) (v := ?v6) rfl (by kernel_rfl) (Nat.le_of_eq (by kernel_rfl)) (by kernel_rfl) (by kernel_rfl) (fun _ _ _ h => h) (HSS.out) (Or.inl ⟨by kernel_rfl, ?hy6⟩) ?r6
  case hy6 =>
    intro w hSw
    try dsimp only at hSw
    go_simp
    first | (obtain ⟨y0, y1, y2, y3⟩ := hSw; go_simp) | skip
    try with_reducible rfl
  try simp only [Act.put, List.getElem_toArray, List.getElem_cons_succ, List.getElem_cons_zero, List.setIfInBounds_toArray, List.set_cons_zero, List.set_cons_succ]
  refine AnyBut.takeS (i := 6) (v := ?v7) rfl (by kernel_rfl) (Nat.le_of_eq (by kernel_rfl)) (by kernel_rfl) (by kernel_rfl) (fun _ _ _ h => h) (HSS.out) (Or.inl ⟨by kernel_rfl, ?hy7⟩) ?r7
  case hy7 =>
    intro w hSw
    try dsimp only at hSw
    go_simp
    first | (obtain ⟨y0, y1, y2, y3⟩ := hSw; go_simp) | skip
    try with_reducible rfl
  try simp only [Act.put, List.getElem_toArray, List.getElem_cons_succ, List.getElem_cons_zero, List.setIfInBounds_toArray, List.set_cons_zero, List.set_cons_succ]
  refine AnyBut.takeS (i := 7) (v := ?v8) rfl (by kernel_rfl) (Nat.le_of_eq (by kernel_rfl)) (by kernel_rfl) (by kernel_rfl) (fun _ _ _ h => h) (HSS.out) (Or.inl ⟨by kernel_rfl, ?hy8⟩) ?r8
  case hy8 =>
    intro w hSw
    try dsimp only at hSw
    go_simp
    first | (obtain ⟨y0, y1, y2, y3⟩ := hSw; go_simp) | skip
    try with_reducible rfl
  try simp only [Act.put, List.getElem_toArray, List.getElem_cons_succ, List.getElem_cons_zero, List.setIfInBounds_toArray, List.set_cons_zero, List.set_cons_succ]
  refine AnyBut.takeS (i := 8) (v := ?v9) rfl (by kernel_rfl) (Nat.le_of_eq (by kernel_rfl)) (by kernel_rfl) (by kernel_rfl) (fun _ _ _ h => h) (HSS.out) (Or.inl ⟨by kernel_rfl, ?hy9⟩) ?r9
  case hy9 =>
    intro w hSw
    try dsimp only at hSw
    go_simp
    first | (obtain ⟨y0, y1, y2, y3⟩ := hSw; go_simp) | skip
    try with_reducible rfl
  try simp only [Act.put, List.getElem_toArray, List.getElem_cons_succ, List.getElem_cons_zero, List.setIfInBounds_toArray, List.set_cons_zero, List.set_cons_succ]
  refine AnyBut.takeS (i := 9) (v := ?v10) rfl (by kernel_rfl) (Nat.le_of_eq (by kernel_rfl)) (by kernel_rfl) (by kernel_rfl) (fun _ _ _ h => h) (HSS.out) (Or.inl ⟨by kernel_rfl, ?hy10⟩) ?r10
  case hy10 =>
    intro w hSw
    try dsimp only at hSw
    go_simp
    first | (obtain ⟨y0, y1, y2, y3⟩ := hSw; go_simp) | skip
    try with_reducible rfl
  try simp only [Act.put, List.getElem_toArray, List.getElem_cons_succ, List.getElem_cons_zero, List.setIfInBounds_toArray, List.set_cons_zero, List.set_cons_succ]
  refine AnyBut.one (i := 10) (by kernel_rfl) rfl (fun K hK => ?_)
  go_simp
  go_wp2_with fail
  refine (same_any _ _ Ls HLL.out w7.drew (HRA.out _ HKD.out) (HRB.out _ HKD.out)).mono ?_
  rintro e w8 ⟨rfl, k⟩
  have HK8 := Lib.hid (HKD.out.trans k)
  have HS8 : Hid ((fun w' => w'.cell? ⟨g, 0, none⟩ = some (.slice ra m rc) ∧ w'.cell? ⟨g, 1, none⟩ = some (.int .i64 (u : Int)) ∧ (convert 22 9 (.slice ca z cc)).run Tryd.prog w' = .ok (.string T) w' ∧ (convert 22 9 (.slice ao u cap)).run Tryd.prog w' = .ok (.string T) w') w8) := Lib.hid (HSK.out w8 HK8.out)
  clear k
  go_wp2
  refine hK.out _ _ (HS8.out) ?_
  clear hK K
  try simp only [Act.put, List.getElem_toArray, List.getElem_cons_succ, List.getElem_cons_zero, List.setIfInBounds_toArray, List.set_cons_zero, List.set_cons_succ]
  refine AnyBut.takeS (i := 11) (v := ?v11) rfl (by kernel_rfl) (Nat.le_of_eq (by kernel_rfl)) (by kernel_rfl) (by kernel_rfl) (fun _ _ _ h => h) (HS8.out) (Or.inl ⟨by kernel_rfl, ?hy11⟩) ?r11
  case hy11 =>
    intro w hSw
    try dsimp only at hSw
    go_simp
    first | (obtain ⟨y0, y1, y2, y3⟩ := hSw; go_simp) | skip
    try with_reducible rfl
  try simp only [Act.put, List.getElem_toArray, List.getElem_cons_succ, List.getElem_cons_zero, List.setIfInBounds_toArray, List.set_cons_zero, List.set_cons_succ]
  refine AnyBut.takeS (i := 12) (v := ?v12) rfl (by kernel_rfl) (Nat.le_of_eq (by kernel_rfl)) (by kernel_rfl) (by kernel_rfl) (fun _ _ _ h => h) (HS8.out) (Or.inl ⟨by kernel_rfl, ?hy12⟩) ?r12
  case hy12 =>
    intro w hSw
    try dsimp only at hSw
    go_simp
    first | (obtain ⟨y0, y1, y2, y3⟩ := hSw; go_simp) | skip
    try with_reducible rfl
  try simp only [Act.put, List.getElem_toArray, List.getElem_cons_succ, List.getElem_cons_zero, List.setIfInBounds_toArray, List.set_cons_zero, List.set_cons_succ]
  refine AnyBut.takeS (i := 13) (v := ?v13) rfl (by kernel_rfl) (Nat.le_of_eq (by kernel_rfl)) (by kernel_rfl) (by kernel_rfl) (fun _ _ _ h => h) (HS8.out) (Or.inl ⟨by kernel_rfl, ?hy13⟩) ?r13
  case hy13 =>
    intro w hSw
    try dsimp only at hSw
    go_simp
    first | (obtain ⟨y0, y1, y2, y3⟩ := hSw; go_simp) | skip
    try with_reducible rfl
  try simp only [Act.put, List.getElem_toArray, List.getElem_cons_succ, List.getElem_cons_zero, List.setIfInBounds_toArray, List.set_cons_zero, List.set_cons_succ]
  refine AnyBut.takeS (i := 15) (v := ?v14) rfl (by kernel_rfl) (Nat.le_of_eq (by kernel_rfl)) (by kernel_rfl) (by kernel_rfl) (fun _ _ _ h => h) (HS8.out) (Or.inl ⟨by kernel_rfl, ?hy14⟩) ?r14
  case hy14 =>
    intro w hSw
    try dsimp only at hSw
    go_simp
    first | (obtain ⟨y0, y1, y2, y3⟩ := hSw; go_simp) | skip
    try with_reducible rfl
  try simp only [Act.put, List.getElem_toArray, List.getElem_cons_succ, List.getElem_cons_zero, List.setIfInBounds_toArray, List.set_cons_zero, List.set_cons_succ]
  refine AnyBut.takeS (i := 16) (v := ?v15) rfl (by kernel_rfl) (Nat.le_of_eq (by kernel_rfl)) (by kernel_rfl) (by kernel_rfl) (fun _ _ _ h => h) (HS8.out) (Or.inl ⟨by kernel_rfl, ?hy15⟩) ?r15
  case hy15 =>
    intro w hSw
    try dsimp only at hSw
    go_simp
    first | (obtain ⟨y0, y1, y2, y3⟩ := hSw; go_simp) | skip
    try with_reducible rfl
  try simp only [Act.put, List.getElem_toArray, List.getElem_cons_succ, List.getElem_cons_zero, List.setIfInBounds_toArray, List.set_cons_zero, List.set_cons_succ]
  refine AnyBut.takeS (i := 17) (v := ?v16) rfl (by kernel_rfl) (Nat.le_of_eq (by kernel_rfl)) (by kernel_rfl) (by kernel_rfl) (fun _ _ _ h => h) (HS8.out) (Or.inl ⟨by kernel_rfl, ?hy16⟩) ?r16
  case hy16 =>
    intro w hSw
    try dsimp only at hSw
    go_simp
    first | (obtain ⟨y0, y1, y2, y3⟩ := hSw; go_simp) | skip
    try with_reducible rfl
  try simp only [Act.put, List.getElem_toArray, List.getElem_cons_succ, List.getElem_cons_zero, List.setIfInBounds_toArray, List.set_cons_zero, List.set_cons_succ]
  refine AnyBut.one (i := 14) (by kernel_rfl) rfl (fun K hK => ?_)
  go_simp
  go_wp2_with fail
  refine (HLE.out _ HK8.out).mono ?_
  rintro e w9 ⟨rfl, rfl⟩
  go_wp2
  refine hK.out _ _ (HS8.out) ?_
  clear hK K
  try simp only [Act.put, List.getElem_toArray, List.getElem_cons_succ, List.getElem_cons_zero, List.setIfInBounds_toArray, List.set_cons_zero, List.set_cons_succ]
  refine AnyBut.takeS (i := 18) (v := ?v17) rfl (by kernel_rfl) (Nat.le_of_eq (by kernel_rfl)) (by kernel_rfl) (by kernel_rfl) (fun _ _ _ h => h) (HS8.out) (Or.inl ⟨by kernel_rfl, ?hy17⟩) ?r17
  case hy17 =>
    intro w hSw
    try dsimp only at hSw
    go_simp
    first | (obtain ⟨y0, y1, y2, y3⟩ := hSw; go_simp) | skip
    try with_reducible rfl
  try simp only [Act.put, List.getElem_toArray, List.getElem_cons_succ, List.getElem_cons_zero, List.setIfInBounds_toArray, List.set_cons_zero, List.set_cons_succ]
  refine AnyBut.takeS (i := 19) (v := ?v18) rfl (by kernel_rfl) (Nat.le_of_eq (by kernel_rfl)) (by kernel_rfl) (by kernel_rfl) (fun _ _ _ h => h) (HS8.out) (Or.inl ⟨by kernel_rfl, ?hy18⟩) ?r18
  case hy18 =>
    intro w hSw
    try dsimp only at hSw
    go_simp
    first | (obtain ⟨y0, y1, y2, y3⟩ := hSw; go_simp) | skip
    try with_reducible rfl
  try simp only [Act.put, List.getElem_toArray, List.getElem_cons_succ, List.getElem_cons_zero, List.setIfInBounds_toArray, List.set_cons_zero, List.set_cons_succ]
  refine AnyBut.takeS (i := 20) (v := ?v19) rfl (by kernel_rfl) (Nat.le_of_eq (by kernel_rfl)) (by kernel_rfl) (by kernel_rfl) (fun _ _ _ h => h) (HS8.out) (Or.inl ⟨by kernel_rfl, ?hy19⟩) ?r19
  case hy19 =>
    intro w hSw
    try dsimp only at hSw
    go_simp
    first | (obtain ⟨y0, y1, y2, y3⟩ := hSw; go_simp) | skip
    try with_reducible rfl
  try simp only [Act.put, List.getElem_toArray, List.getElem_cons_succ, List.getElem_cons_zero, List.setIfInBounds_toArray, List.set_cons_zero, List.set_cons_succ]
  refine AnyBut.takeS (i := 21) (v := ?v20) rfl (by kernel_rfl) (Nat.le_of_eq (by kernel_rfl)) (by kernel_rfl) (by kernel_rfl) (fun _ _ _ h => h) (HS8.out) (Or.inl ⟨by kernel_rfl, ?hy20⟩) ?r20
  case hy20 =>
    intro w hSw
    try dsimp only at hSw
    go_simp
    first | (obtain ⟨y0, y1, y2, y3⟩ := hSw; go_simp) | skip
    try with_reducible rfl
  try simp only [Act.put, List.getElem_toArray, List.getElem_cons_succ, List.getElem_cons_zero, List.setIfInBounds_toArray, List.set_cons_zero, List.set_cons_succ]
  refine AnyBut.takeS (i := 23) (v := ?v21) rfl (by kernel_rfl) (Nat.le_of_eq (by kernel_rfl)) (by kernel_rfl) (by kernel_rfl) (fun _ _ _ h => h) (HS8.out) (Or.inl ⟨by kernel_rfl, ?hy21⟩) ?r21
  case hy21 =>
    intro w hSw
    try dsimp only at hSw
    go_simp
    first | (obtain ⟨y0, y1, y2, y3⟩ := hSw; go_simp) | skip
    try with_reducible rfl
  try simp only [Act.put, List.getElem_toArray, List.getElem_cons_succ, List.getElem_cons_zero, List.setIfInBounds_toArray, List.set_cons_zero, List.set_cons_succ]
  refine AnyBut.takeS (i := 24) (v := ?v22) rfl (by kernel_rfl) (Nat.le_of_eq (by kernel_rfl)) (by kernel_rfl) (by kernel_rfl) (fun _ _ _ h => h) (HS8.out) (Or.inl ⟨by kernel_rfl, ?hy22⟩) ?r22
  case hy22 =>
    intro w hSw
    try dsimp only at hSw
    go_simp
    first | (obtain ⟨y0, y1, y2, y3⟩ := hSw; go_simp) | skip
    try with_reducible rfl
  try simp only [Act.put, List.getElem_toArray, List.getElem_cons_succ, List.getElem_cons_zero, List.setIfInBounds_toArray, List.set_cons_zero, List.set_cons_succ]
  refine AnyBut.one (i := 22) (by kernel_rfl) rfl (fun K hK => ?_)
  go_simp
  go_wp2_with fail
  refine (HSI.out _ HK8.out).mono ?_
  rintro e w9 ⟨rfl, rfl⟩
  go_wp2
  refine hK.out _ _ (HS8.out) ?_
  clear hK K
  try simp only [Act.put, List.getElem_toArray, List.getElem_cons_succ, List.getElem_cons_zero, List.setIfInBounds_toArray, List.set_cons_zero, List.set_cons_succ]
  refine AnyBut.takeS (i := 25) (v := ?v23) rfl (by kernel_rfl) (Nat.le_of_eq (by kernel_rfl)) (by kernel_rfl) (by kernel_rfl) (fun _ _ _ h => h) (HS8.out) (Or.inl ⟨by kernel_rfl, ?hy23⟩) ?r23
  case hy23 =>
    intro w hSw
    try dsimp only at hSw
    go_simp
    first | (obtain ⟨y0, y1, y2, y3⟩ := hSw; go_simp) | skip
    try with_reducible rfl
  try simp only [Act.put, List.getElem_toArray, List.getElem_cons_succ, List.getElem_cons_zero, List.setIfInBounds_toArray, List.set_cons_zero, List.set_cons_succ]
  refine AnyBut.takeS (i := 26) (v := ?v24) rfl (by kernel_rfl) (Nat.le_of_eq (by kernel_rfl)) (by kernel_rfl) (by kernel_rfl) (fun _ _ _ h => h) (HS8.out) (Or.inl ⟨by kernel_rfl, ?hy24⟩) ?r24
  case hy24 =>
    intro w hSw
    try dsimp only at hSw
    go_simp
    first | (obtain ⟨y0, y1, y2, y3⟩ := hSw; go_simp) | skip
    try with_reducible rfl
  try simp only [Act.put, List.getElem_toArray, List.getElem_cons_succ, List.getElem_cons_zero, List.setIfInBounds_toArray, List.set_cons_zero, List.set_cons_succ]
  refine AnyBut.takeS (i := 27) (v := ?v25) rfl (by kernel_rfl) (Nat.le_of_eq (by kernel_rfl)) (by kernel_rfl) (by kernel_rfl) (fun _ _ _ h => h) (HS8.out) (Or.inl ⟨by kernel_rfl, ?hy25⟩) ?r25
  case hy25 =>
    intro w hSw
    try dsimp only at hSw
    go_simp
    first | (obtain ⟨y0, y1, y2, y3⟩ := hSw; go_simp) | skip
    try with_reducible rfl
  try simp only [Act.put, List.getElem_toArray, List.getElem_cons_succ, List.getElem_cons_zero, List.setIfInBounds_toArray, List.set_cons_zero, List.set_cons_succ]
  refine AnyBut.takeS (i := 28) (v := ?v26) rfl (by kernel_rfl) (Nat.le_of_eq (by kernel_rfl)) (by kernel_rfl) (by kernel_rfl) (fun _ _ _ h => h) (HS8.out) (Or.inl ⟨by kernel_rfl, ?hy26⟩) ?r26
  case hy26 =>
    intro w hSw
    try dsimp only at hSw
    go_simp
    first | (obtain ⟨y0, y1, y2, y3⟩ := hSw; go_simp) | skip
    try with_reducible rfl
  try simp only [Act.put, List.getElem_toArray, List.getElem_cons_succ, List.getElem_cons_zero, List.setIfInBounds_toArray, List.set_cons_zero, List.set_cons_succ]
  refine AnyBut.takeS (i := 29) (v := ?v27) rfl (by kernel_rfl) (Nat.le_of_eq (by kernel_rfl)) (by kernel_rfl) (by kernel_rfl) (fun _ _ _ h => h) (HS8.out) (Or.inl ⟨by kernel_rfl, ?hy27⟩) ?r27
  case hy27 =>
    intro w hSw
    try dsimp only at hSw
    go_simp
    first | (obtain ⟨y0, y1, y2, y3⟩ := hSw; go_simp) | skip
    try with_reducible rfl
  try simp only [Act.put, List.getElem_toArray, List.getElem_cons_succ, List.getElem_cons_zero, List.setIfInBounds_toArray, List.set_cons_zero, List.set_cons_succ]
  refine AnyBut.takeS (i := 30) (v := ?v28) rfl (by kernel_rfl) (Nat.le_of_eq (by kernel_rfl)) (by kernel_rfl) (by kernel_rfl) (fun _ _ _ h => h) (HS8.out) (Or.inl ⟨by kernel_rfl, ?hy28⟩) ?r28
  case hy28 =>
    intro w hSw
    try dsimp only at hSw
    go_simp
    first | (obtain ⟨y0, y1, y2, y3⟩ := hSw; go_simp) | skip
    try with_reducible rfl
  try simp only [Act.put, List.getElem_toArray, List.getElem_cons_succ, List.getElem_cons_zero, List.setIfInBounds_toArray, List.set_cons_zero, List.set_cons_succ]
  refine AnyBut.takeS (i := 31) (v := ?v29) rfl (by kernel_rfl) (Nat.le_of_eq (by kernel_rfl)) (by kernel_rfl) (by kernel_rfl) (fun _ _ _ h => h) (HS8.out) (Or.inl ⟨by kernel_rfl, ?hy29⟩) ?r29
  case hy29 =>
    intro w hSw
    try dsimp only at hSw
    go_simp
    first | (obtain ⟨y0, y1, y2, y3⟩ := hSw; go_simp) | skip
    try with_reducible rfl
  try simp only [Act.put, List.getElem_toArray, List.getElem_cons_succ, List.getElem_cons_zero, List.setIfInBounds_toArray, List.set_cons_zero, List.set_cons_succ]
  refine AnyBut.takeS (i := 32) (v := ?v30) rfl (by kernel_rfl) (Nat.le_of_eq (by kernel_rfl)) (by kernel_rfl) (by kernel_rfl) (fun _ _ _ h => h) (HS8.out) (Or.inl ⟨by kernel_rfl, ?hy30⟩) ?r30
  case hy30 =>
    intro w hSw
    try dsimp only at hSw
    go_simp
    first | (obtain ⟨y0, y1, y2, y3⟩ := hSw; go_simp) | skip
    try with_reducible rfl
  try simp only [Act.put, List.getElem_toArray, List.getElem_cons_succ, List.getElem_cons_zero, List.setIfInBounds_toArray, List.set_cons_zero, List.set_cons_succ]
  refine AnyBut.takeS (i := 33) (v := ?v31) rfl (by kernel_rfl) (Nat.le_of_eq (by kernel_rfl)) (by kernel_rfl) (by kernel_rfl) (fun _ _ _ h => h) (HS8.out) (Or.inl ⟨by kernel_rfl, ?hy31⟩) ?r31
  case hy31 =>
    intro w hSw
    try dsimp only at hSw
    go_simp
    first | (obtain ⟨y0, y1, y2, y3⟩ := hSw; go_simp) | skip
    try with_reducible rfl
  try simp only [Act.put, List.getElem_toArray, List.getElem_cons_succ, List.getElem_cons_zero, List.setIfInBounds_toArray, List.set_cons_zero, List.set_cons_succ]
  refine AnyBut.takeS (i := 34) (v := ?v32) rfl (by kernel_rfl) (Nat.le_of_eq (by kernel_rfl)) (by kernel_rfl) (by kernel_rfl) (fun _ _ _ h => h) (HS8.out) (Or.inl ⟨by kernel_rfl, ?hy32⟩) ?r32
  case hy32 =>
    intro w hSw
    try dsimp only at hSw
    go_simp
    first | (obtain ⟨y0, y1, y2, y3⟩ := hSw; go_simp) | skip
    try with_reducible rfl
  try simp only [Act.put, List.getElem_toArray, List.getElem_cons_succ, List.getElem_cons_zero, List.setIfInBounds_toArray, List.set_cons_zero, List.set_cons_succ]
  refine AnyBut.takeS (i := 35) (v := ?v33) rfl (by kernel_rfl) (Nat.le_of_eq (by kernel_rfl)) (by kernel_rfl) (by kernel_rfl) (fun _ _ _ h => h) (HS8.out) (Or.inl ⟨by kernel_rfl, ?hy33⟩) ?r33
  case hy33 =>
    intro w hSw
    try dsimp only at hSw
    go_simp
    first | (obtain ⟨y0, y1, y2, y3⟩ := hSw; go_simp) | skip
    try with_reducible rfl
  try simp only [Act.put, List.getElem_toArray, List.getElem_cons_succ, List.getElem_cons_zero, List.setIfInBounds_toArray, List.set_cons_zero, List.set_cons_succ]
  refine AnyBut.takeS (i := 36) (v := ?v34) rfl (by kernel_rfl) (Nat.le_of_eq (by kernel_rfl)) (by kernel_rfl) (by kernel_rfl) (fun _ _ _ h => h) (HS8.out) (Or.inl ⟨by kernel_rfl, ?hy34⟩) ?r34
  case hy34 =>
    intro w hSw
    try dsimp only at hSw
    go_simp
    first | (obtain ⟨y0, y1, y2, y3⟩ := hSw; go_simp) | skip
    try with_reducible rfl
  try simp only [Act.put, List.getElem_toArray, List.getElem_cons_succ, List.getElem_cons_zero, List.setIfInBounds_toArray, List.set_cons_zero, List.set_cons_succ]
  refine AnyBut.takeS (i := 37) (v := ?v35) rfl (by kernel_rfl) (Nat.le_of_eq (by kernel_rfl)) (by kernel_rfl) (by kernel_rfl) (fun _ _ _ h => h) (HS8.out) (Or.inl ⟨by kernel_rfl, ?hy35⟩) ?r35
  case hy35 =>
    intro w hSw
    try dsimp only at hSw
    go_simp
    first | (obtain ⟨y0, y1, y2, y3⟩ := hSw; go_simp) | skip
    try with_reducible rfl
  try simp only [Act.put, List.getElem_toArray, List.getElem_cons_succ, List.getElem_cons_zero, List.setIfInBounds_toArray, List.set_cons_zero, List.set_cons_succ]
  refine AnyBut.done (by kernel_rfl) ?_
  go_wp2
  go_ret
  exact ⟨rfl, (HK6.out.trans HM7.out).trans HK8.out⟩

theorem walOpens_walk (ao : Option Addr) (len cap : Nat) (zs : List Int) (th : Bool) (s : ByteArray) (W : World) (hrow : IsRow .u8 W ao len cap zs) (hs : s.size ≤ maxLen) (HN : Nibs W) :
    Calls Tryd.prog 6 #[.slice ao len cap, .bool th, .string s] W fun e w' => e = .returned (.bool true) ∧ Kept (fun _ => False) W w' := by
  have hcap := isRow_cap hrow
  obtain ⟨l, hl, HB, _⟩ := hrow.row8
  by_cases h3 : 3000 < len
  · exact opens_over ao len cap th s W HN (Nat.le_trans hcap.1 hcap.2) hs (.inl h3)
  by_cases h4 : 100 < s.size
  · exact opens_over ao len cap th s W HN (Nat.le_trans hcap.1 hcap.2) hs (.inr h4)
  subst hl
  cases th with
  | false => exact opens_new ao l.length cap s W HN h3 h4
  | true =>
    obtain ⟨Ls, u, n, hsc⟩ := scan_ex l
    by_cases hn : n = 0 ∨ n = 2
    · exact opens_ok ao cap s l Ls u n W HN HB hcap.1 h3 h4 hsc hn
    · exact opens_bad ao cap s l Ls u n W HN HB hcap.1 h3 h4 hsc ⟨fun e => hn (.inl e), fun e => hn (.inr e)⟩
end Go.Proofs.YtficodklidaheaaDoor
