/- Texts put together: WY. -/
import Derived.Test.YtficodklidaheaaDoorZz6
import Derived.Test.YtficodklidaheaaDoorZz14
import Derived.Test.YtficodklidaheaaDoorZz20
import Derived.Test.YtficodklidaheaaDoorZz24
/- Layer 20: same (written by tools/gen_XWY.py). -/
namespace Go.Proofs.YtficodklidaheaaDoor
open Go.RowKit
attribute [local go_sem ↓] Go.wp_at_zero Go.wp_at_succ

set_option maxRecDepth 100000 in
set_option maxHeartbeats 16000000 in
theorem same20_any (W : World) (db mb : Nat) (L : List (ByteArray × Fi)) (rb : Nat) (ao : Option Addr) (cp : Nat) (LR : List RF) (D : DA) (w : World) (h : Half W w db mb L rb ao cp LR D D) :
    Calls Tryd.prog 46 #[.pointer (some ⟨db, 0, none⟩), .pointer (some ⟨rb, 0, none⟩)] w fun e w' => e = .returned (.bool true) ∧ Kept (fun _ => False) w w' := by
  have kd : Kept (fun _ => False) w w.drew := (Kept.refl _ _).drew
  have HH := Lib.hid (h.on kd)
  obtain ⟨dn, hdn⟩ : ∃ dn, dn = D.down := ⟨_, rfl⟩
  obtain ⟨cl, hcl⟩ : ∃ cl, cl = D.calls := ⟨_, rfl⟩
  have HDN := Lib.hid (dDown_any W.heap.size db mb L D w.drew HH.out.d)
  have HCL := Lib.hid (dCalls_any W.heap.size db mb L D w.drew HH.out.d)
  rw [← hdn] at HDN
  rw [← hcl] at HCL
  have c2 := HH.out.r.c.2.2.1
  have c3 := HH.out.r.c.2.2.2.1
  rw [← hdn] at c2
  rw [← hcl] at c3
  have HS1 : Hid ((fun w' => w'.cell? ⟨rb, 2, none⟩ = some (.bool dn) ∧ w'.cell? ⟨rb, 3, none⟩ = some (.int .i64 cl)) w.drew) := Lib.hid ⟨c2, c3⟩
  have HNM := Lib.hid (dNames_any W.heap.size db mb L D w.drew HH.out.d)
  have HRD := Lib.hid (fun s (hs : s.size ≤ maxLen) w' (k : Kept (fun _ => False) w.drew w') => dRead_any W.heap.size db mb L D s hs w' (HH.out.on k).d)
  have HDN0 := Lib.hid hdn
  have HKD := Lib.hid kd
  clear h kd hdn hcl
  go_enter Tryd.func46, Tryd.ntmps46
  go_upto_region 1 with fail
  refine AnyBut.start (S := fun w' => w'.cell? ⟨rb, 2, none⟩ = some (.bool dn) ∧ w'.cell? ⟨rb, 3, none⟩ = some (.int .i64 cl)) (k := 16) (by kernel_rfl) ?_
  refine AnyBut.takeS (i := 0) (v := ?v1) rfl (by kernel_rfl) (Nat.le_of_eq (by kernel_rfl)) (by kernel_rfl) (by kernel_rfl) (fun _ _ _ h => h) (HS1.out) (Or.inl ⟨by kernel_rfl, ?hy1⟩) ?r1
  case hy1 =>
    intro w hSw
    try dsimp only at hSw
    go_simp
    first | (obtain ⟨y0, y1⟩ := hSw; go_simp) | skip
    try with_reducible rfl
  try simp only [Act.put, List.getElem_toArray, List.getElem_cons_zero, List.setIfInBounds_toArray, List.set_cons_zero, List.set_cons_succ]
  refine AnyBut.takeS (i := 2) (v := ?v2) rfl (by kernel_rfl) (Nat.le_of_eq (by kernel_rfl)) (by kernel_rfl) (by kernel_rfl) (fun _ _ _ h => h) (HS1.out) (Or.inl ⟨by kernel_rfl, ?hy2⟩) ?r2
  case hy2 =>
    intro w hSw
    try dsimp only at hSw
    go_simp
    first | (obtain ⟨y0, y1⟩ := hSw; go_simp) | skip
    try with_reducible rfl
  try simp only [Act.put, List.getElem_toArray, List.getElem_cons_succ, List.getElem_cons_zero, List.setIfInBounds_toArray, List.set_cons_zero, List.set_cons_succ]
  refine AnyBut.takeS (i := 3) (v := ?v3) rfl (by kernel_rfl) (Nat.le_of_eq (by kernel_rfl)) (by kernel_rfl) (by kernel_rfl) (fun _ _ _ h => h) (HS1.out) (Or.inl ⟨by kernel_rfl, ?hy3⟩) ?r3
  case hy3 =>
    intro w hSw
    try dsimp only at hSw
    go_simp
    first | (obtain ⟨y0, y1⟩ := hSw; go_simp) | skip
    try with_reducible rfl
  try simp only [Act.put, List.getElem_toArray, List.getElem_cons_succ, List.getElem_cons_zero, List.setIfInBounds_toArray, List.set_cons_zero, List.set_cons_succ]
  refine AnyBut.takeS (i := 4) (v := ?v4) rfl (by kernel_rfl) (Nat.le_of_eq (by kernel_rfl)) (by kernel_rfl) (by kernel_rfl) (fun _ _ _ h => h) (HS1.out) (Or.inl ⟨by kernel_rfl, ?hy4⟩) ?r4
  case hy4 =>
    intro w hSw
    try dsimp only at hSw
    go_simp
    first | (obtain ⟨y0, y1⟩ := hSw; go_simp) | skip
    try with_reducible rfl
  try simp only [Act.put, List.getElem_toArray, List.getElem_cons_succ, List.getElem_cons_zero, List.setIfInBounds_toArray, List.set_cons_zero, List.set_cons_succ]
  refine AnyBut.takeS (i := 5) (v := ?v5) rfl (by kernel_rfl) (Nat.le_of_eq (by kernel_rfl)) (by kernel_rfl) (by kernel_rfl) (fun _ _ _ h => h) (HS1.out) (Or.inl ⟨by kernel_rfl, ?hy5⟩) ?r5
  case hy5 =>
    intro w hSw
    try dsimp only at hSw
    go_simp
    first | (obtain ⟨y0, y1⟩ := hSw; go_simp) | skip
    try with_reducible rfl
  try simp only [Act.put, List.getElem_toArray, List.getElem_cons_succ, List.getElem_cons_zero, List.setIfInBounds_toArray, List.set_cons_zero, List.set_cons_succ]
  refine AnyBut.one (i := 1) (by kernel_rfl) rfl (fun K hK => ?_)
  go_simp
  go_wp2_with fail
  refine HDN.out.mono ?_
  rintro e w9 ⟨rfl, rfl⟩
  go_wp2
  refine hK.out _ _ (HS1.out) ?_
  clear hK K
  try simp only [Act.put, List.getElem_toArray, List.getElem_cons_succ, List.getElem_cons_zero, List.setIfInBounds_toArray, List.set_cons_zero, List.set_cons_succ]
  refine AnyBut.takeS (i := 6) (v := ?v6) rfl (by kernel_rfl) (Nat.le_of_eq (by kernel_rfl)) (by kernel_rfl) (by kernel_rfl) (fun _ _ _ h => h) (HS1.out) (Or.inl ⟨by kernel_rfl, ?hy6⟩) ?r6
  case hy6 =>
    intro w hSw
    try dsimp only at hSw
    go_simp
    first | (obtain ⟨y0, y1⟩ := hSw; go_simp) | skip
    try with_reducible rfl
  try simp only [Act.put, List.getElem_toArray, List.getElem_cons_succ, List.getElem_cons_zero, List.setIfInBounds_toArray, List.set_cons_zero, List.set_cons_succ]
  refine AnyBut.takeS (i := 7) (v := ?v7) rfl (by kernel_rfl) (Nat.le_of_eq (by kernel_rfl)) (by kernel_rfl) (by kernel_rfl) (fun _ _ _ h => h) (HS1.out) (Or.inl ⟨by kernel_rfl, ?hy7⟩) ?r7
  case hy7 =>
    intro w hSw
    try dsimp only at hSw
    go_simp
    first | (obtain ⟨y0, y1⟩ := hSw; go_simp) | skip
    try with_reducible rfl
  try simp only [Act.put, List.getElem_toArray, List.getElem_cons_succ, List.getElem_cons_zero, List.setIfInBounds_toArray, List.set_cons_zero, List.set_cons_succ]
  refine AnyBut.takeS (i := 8) (v := ?v8) rfl (by kernel_rfl) (Nat.le_of_eq (by kernel_rfl)) (by kernel_rfl) (by kernel_rfl) (fun _ _ _ h => h) (HS1.out) (Or.inl ⟨by kernel_rfl, ?hy8⟩) ?r8
  case hy8 =>
    intro w hSw
    try dsimp only at hSw
    go_simp
    first | (obtain ⟨y0, y1⟩ := hSw; go_simp) | skip
    try with_reducible rfl
  try simp only [Act.put, List.getElem_toArray, List.getElem_cons_succ, List.getElem_cons_zero, List.setIfInBounds_toArray, List.set_cons_zero, List.set_cons_succ]
  refine AnyBut.takeS (i := 10) (v := ?v9) rfl (by kernel_rfl) (Nat.le_of_eq (by kernel_rfl)) (by kernel_rfl) (by kernel_rfl) (fun _ _ _ h => h) (HS1.out) (Or.inl ⟨by kernel_rfl, ?hy9⟩) ?r9
  case hy9 =>
    intro w hSw
    try dsimp only at hSw
    go_simp
    first | (obtain ⟨y0, y1⟩ := hSw; go_simp) | skip
    try with_reducible rfl
  try simp only [Act.put, List.getElem_toArray, List.getElem_cons_succ, List.getElem_cons_zero, List.setIfInBounds_toArray, List.set_cons_zero, List.set_cons_succ]
  refine AnyBut.takeS (i := 11) (v := ?v10) rfl (by kernel_rfl) (Nat.le_of_eq (by kernel_rfl)) (by kernel_rfl) (by kernel_rfl) (fun _ _ _ h => h) (HS1.out) (Or.inl ⟨by kernel_rfl, ?hy10⟩) ?r10
  case hy10 =>
    intro w hSw
    try dsimp only at hSw
    go_simp
    first | (obtain ⟨y0, y1⟩ := hSw; go_simp) | skip
    try with_reducible rfl
  try simp only [Act.put, List.getElem_toArray, List.getElem_cons_succ, List.getElem_cons_zero, List.setIfInBounds_toArray, List.set_cons_zero, List.set_cons_succ]
  refine AnyBut.takeS (i := 12) (v := ?v11) rfl (by kernel_rfl) (Nat.le_of_eq (by kernel_rfl)) (by kernel_rfl) (by kernel_rfl) (fun _ _ _ h => h) (HS1.out) (Or.inl ⟨by kernel_rfl, ?hy11⟩) ?r11
  case hy11 =>
    intro w hSw
    try dsimp only at hSw
    go_simp
    first | (obtain ⟨y0, y1⟩ := hSw; go_simp) | skip
    try with_reducible rfl
  try simp only [Act.put, List.getElem_toArray, List.getElem_cons_succ, List.getElem_cons_zero, List.setIfInBounds_toArray, List.set_cons_zero, List.set_cons_succ]
  refine AnyBut.takeS (i := 13) (v := ?v12) rfl (by kernel_rfl) (Nat.le_of_eq (by kernel_rfl)) (by kernel_rfl) (by kernel_rfl) (fun _ _ _ h => h) (HS1.out) (Or.inl ⟨by kernel_rfl, ?hy12⟩) ?r12
  case hy12 =>
    intro w hSw
    try dsimp only at hSw
    go_simp
    first | (obtain ⟨y0, y1⟩ := hSw; go_simp) | skip
    try with_reducible rfl
  try simp only [Act.put, List.getElem_toArray, List.getElem_cons_succ, List.getElem_cons_zero, List.setIfInBounds_toArray, List.set_cons_zero, List.set_cons_succ]
  refine AnyBut.one (i := 9) (by kernel_rfl) rfl (fun K hK => ?_)
  go_simp
  go_wp2_with fail
  refine HCL.out.mono ?_
  rintro e w9 ⟨rfl, rfl⟩
  go_wp2
  refine hK.out _ _ (HS1.out) ?_
  clear hK K
  try simp only [Act.put, List.getElem_toArray, List.getElem_cons_succ, List.getElem_cons_zero, List.setIfInBounds_toArray, List.set_cons_zero, List.set_cons_succ]
  refine AnyBut.takeS (i := 14) (v := ?v13) rfl (by kernel_rfl) (Nat.le_of_eq (by kernel_rfl)) (by kernel_rfl) (by kernel_rfl) (fun _ _ _ h => h) (HS1.out) (Or.inl ⟨by kernel_rfl, ?hy13⟩) ?r13
  case hy13 =>
    intro w hSw
    try dsimp only at hSw
    go_simp
    first | (obtain ⟨y0, y1⟩ := hSw; go_simp) | skip
    try with_reducible rfl
  try simp only [Act.put, List.getElem_toArray, List.getElem_cons_succ, List.getElem_cons_zero, List.setIfInBounds_toArray, List.set_cons_zero, List.set_cons_succ]
  refine AnyBut.takeS (i := 15) (v := ?v14) rfl (by kernel_rfl) (Nat.le_of_eq (by kernel_rfl)) (by kernel_rfl) (by kernel_rfl) (fun _ _ _ h => h) (HS1.out) (Or.inl ⟨by kernel_rfl, ?hy14⟩) ?r14
  case hy14 =>
    intro w hSw
    try dsimp only at hSw
    go_simp
    first | (obtain ⟨y0, y1⟩ := hSw; go_simp) | skip
    try with_reducible rfl
  try simp only [Act.put, List.getElem_toArray, List.getElem_cons_succ, List.getElem_cons_zero, List.setIfInBounds_toArray, List.set_cons_zero, List.set_cons_succ]
  refine AnyBut.done (by kernel_rfl) ?_
  cases dn with
  | true =>
    go_wp2
    go_ret
    exact ⟨rfl, HKD.out⟩
  | false =>
    go_wp2_with fail
    refine HNM.out.mono ?_
    rintro e w3 ⟨v3, rfl, m3⟩
    obtain ⟨na, nc, rfl⟩ := m3.slice
    have HM3 := Lib.hid m3
    clear c2 c3 m3
    have e1 : namesUp D = namesA D.L := by unfold namesUp; rw [if_neg (by rw [← HDN0.out]; decide)]
    have hlen : (strs (namesUp D)).length = LR.length := by rw [e1, strs_length]; unfold namesA; rw [List.length_map, HH.out.r.len]
    have HE1 := Lib.hid e1
    rw [hlen] at HM3 ⊢
    obtain ⟨n, hn⟩ : ∃ n, n = LR.length := ⟨_, rfl⟩
    have HLN := Lib.hid hn
    have hn4 : n ≤ 4096 := by have h1 := HH.out.r.len; have h2 := HH.out.r.ok.count; omega
    have b0 := (HH.out.on HM3.out.kept).r.c.1
    rw [← hn] at HM3 b0 ⊢
    clear e1 hlen hn
    go_wp2
    go_loopg [6] n (fun g s6 wr => ∃ i : Nat, i ≤ n ∧ g = n - i ∧ s6 = .int .i64 i ∧ Kept (fun _ => False) w3 wr)
    case atStart => exact ⟨0, Nat.zero_le _, rfl, rfl, Kept.refl _ _⟩
    case round =>
      obtain ⟨i, hin, rfl, rfl, hkr⟩ := hrel
      have HKR := Lib.hid hkr
      by_cases hd : i < n
      · have hdi : (i : Int) < (n : Int) := by omega
        have hdi0 : (0 : Int) ≤ (i : Int) := by omega
        have HD := Lib.hid hd
        have wi : IntKind.i64.wrap ((i : Int) + 1) = ((i + 1 : Nat) : Int) := by rw [IntWalk.i64_in _ ⟨by omega, by omega⟩]; omega
        obtain ⟨f, hf⟩ : ∃ f, LR[i]? = some f := ⟨_, List.getElem?_eq_getElem (by have := HLN.out; omega)⟩
        have hfD := HH.out.r.get hf
        have hmem := List.mem_of_getElem? hf
        have hgs : getM D.L f.nm = some ⟨f.b, f.s⟩ := getM_of HH.out.r.ok.asc.pair (List.mem_of_getElem? hfD)
        have hnmB := HH.out.r.ok.name _ (List.mem_of_getElem? hfD)
        have hsz : f.nm.size ≤ 32 := (nameB_size hnmB).2
        have hbyte := HH.out.r.ok.byte _ (List.mem_of_getElem? hfD)
        have hni : (strs (namesUp D))[i]? = some (.string f.nm) := by
          rw [HE1.out]
          unfold strs namesA
          rw [List.getElem?_map, List.getElem?_map, hfD]; rfl
        obtain ⟨ng, no, hna, hnc⟩ := (HM3.out.at_.kept hkr (fun _ _ x => x)).elem hni
        subst hna
        obtain ⟨rg, ro, hra, hrc⟩ := (HH.out.on (HM3.out.kept.trans hkr)).r.row (by have := HLN.out; omega)
        subst hra
        have r0 := hrc i f hf 0 (.string f.nm) rfl
        have r1 := hrc i f hf 1 (.slice f.a f.b.length f.c) rfl
        rw [Nat.add_zero] at r0
        have bx := (HH.out.on (HM3.out.kept.trans hkr)).r.c.1
        rw [← HLN.out] at bx
        have ra : readA D f.nm = (f.b, 0) := by unfold readA; rw [if_neg (by rw [← HDN0.out]; decide), hgs]
        have HR1 := Lib.hid (HRD.out f.nm (by unfold maxLen; omega) wr (HM3.out.kept.trans hkr))
        rw [ra] at HR1
        have HDT := Lib.hid (fun w' (k : Kept (fun _ => False) w.drew w') => slAt_row8 ((HH.out.on k).r.data f hmem).1 hbyte)
        obtain ⟨s, fa, fc, fb, fs⟩ := f
        obtain ⟨fn, hfn⟩ : ∃ fn, fn = fb.length := ⟨_, rfl⟩
        dsimp only at HR1 r0 r1 hbyte hsz
        unfold ReadTo at HR1
        unfold RF.v at HDT
        dsimp only at HR1 HDT
        rw [← hfn] at HR1 r1 HDT
        have HBY := Lib.hid hbyte
        have HNC := Lib.hid hnc
        have HRC := Lib.hid (And.intro r0 (And.intro r1 bx))
        obtain ⟨T, hT⟩ : ∃ T, T = strN fb := ⟨_, rfl⟩
        have qs : (s.toList == s.toList) = true := beq_self_eq_true _
        have qT : (T.toList == T.toList) = true := beq_self_eq_true _
        have HTT := Lib.hid hT
        clear hkr hf hfD hmem hgs hnmB hsz hbyte hni hrc ra hfn hd hin r0 r1 bx hT
        go_wp2_with fail
        refine HR1.out.mono ?_
        rintro e w4 ⟨a4, c4, rfl, m4⟩
        have k5 : Kept (fun _ => False) wr w4.drew := m4.kept.trans ((Kept.refl _ _).drew)
        have HK4 := Lib.hid (HKR.out.trans k5)
        have HS12 : Hid ((fun w' => w'.cell? ⟨ng, no + i, none⟩ = some (.string s) ∧ w'.cell? ⟨rb, 0, none⟩ = some (.slice (some ⟨rg, ro, none⟩) n cp) ∧ w'.cell? ⟨rg, ro + i * 3, none⟩ = some (.string s) ∧ w'.cell? ⟨rg, ro + i * 3 + 1, none⟩ = some (.slice fa fn fc) ∧ (convert 22 9 (.slice a4 fn c4)).run Tryd.prog w' = .ok (.string T) w' ∧ (convert 22 9 (.slice fa fn fc)).run Tryd.prog w' = .ok (.string T) w') w4.drew) := Lib.hid ⟨k5.cell HNC.out (fun x => x), k5.cell HRC.out.2.2 (fun x => x), k5.cell HRC.out.1 (fun x => x), k5.cell HRC.out.2.1 (fun x => x), by rw [HTT.out]; exact conv8 ((slAt_row8 m4.at_ HBY.out).kept ((Kept.refl _ _).drew)), by rw [HTT.out]; exact conv8 (HDT.out _ (HM3.out.kept.trans HK4.out))⟩
        clear m4 k5 hnc
        go_upto_region 12 with fail
        refine AnyBut.start (S := fun w' => w'.cell? ⟨ng, no + i, none⟩ = some (.string s) ∧ w'.cell? ⟨rb, 0, none⟩ = some (.slice (some ⟨rg, ro, none⟩) n cp) ∧ w'.cell? ⟨rg, ro + i * 3, none⟩ = some (.string s) ∧ w'.cell? ⟨rg, ro + i * 3 + 1, none⟩ = some (.slice fa fn fc) ∧ (convert 22 9 (.slice a4 fn c4)).run Tryd.prog w' = .ok (.string T) w' ∧ (convert 22 9 (.slice fa fn fc)).run Tryd.prog w' = .ok (.string T) w') (k := 27) (by kernel_rfl) ?_
        refine AnyBut.takeS (i := 0) (v := ?v15) rfl (by kernel_rfl) (Nat.le_of_eq (by kernel_rfl)) (by kernel_rfl) (by kernel_rfl) (fun _ _ _ h => h) (HS12.out) (Or.inl ⟨by kernel_rfl, ?hy15⟩) ?r15
        case hy15 =>
          intro w hSw
          try dsimp only at hSw
          go_simp
          first | (obtain ⟨y0, y1, y2, y3, y4, y5⟩ := hSw; go_simp) | skip
          try with_reducible rfl
        try simp only [Act.put, List.getElem_toArray, List.getElem_cons_zero, List.setIfInBounds_toArray, List.set_cons_zero, List.set_cons_succ]
        refine AnyBut.takeS (i := 1) (v := ?v16) rfl (by kernel_rfl) (Nat.le_of_eq (by kernel_rfl)) (by kernel_rfl) (by kernel_rfl) (fun _ _ _ h => h) (HS12.out) (Or.inl ⟨by kernel_rfl, ?hy16⟩) ?r16
        case hy16 =>
          intro w hSw
          try dsimp only at hSw
          go_simp
          first | (obtain ⟨y0, y1, y2, y3, y4, y5⟩ := hSw; go_simp) | skip
          try with_reducible rfl
        try simp only [Act.put, List.getElem_toArray, List.getElem_cons_succ, List.getElem_cons_zero, List.setIfInBounds_toArray, List.set_cons_zero, List.set_cons_succ]
        refine AnyBut.takeS (i := 2) (v := ?v17) rfl (by kernel_rfl) (Nat.le_of_eq (by kernel_rfl)) (by kernel_rfl) (by kernel_rfl) (fun _ _ _ h => h) (HS12.out) (Or.inl ⟨by kernel_rfl, ?hy17⟩) ?r17
        case hy17 =>
          intro w hSw
          try dsimp only at hSw
          go_simp
          first | (obtain ⟨y0, y1, y2, y3, y4, y5⟩ := hSw; go_simp) | skip
          try with_reducible rfl
        try simp only [Act.put, List.getElem_toArray, List.getElem_cons_succ, List.getElem_cons_zero, List.setIfInBounds_toArray, List.set_cons_zero, List.set_cons_succ]
        refine AnyBut.takeS (i := 3) (v := ?v18) rfl (by kernel_rfl) (Nat.le_of_eq (by kernel_rfl)) (by kernel_rfl) (by kernel_rfl) (fun _ _ _ h => h) (HS12.out) (Or.inl ⟨by kernel_rfl, ?hy18⟩) ?r18
        case hy18 =>
          intro w hSw
          try dsimp only at hSw
          go_simp
          first | (obtain ⟨y0, y1, y2, y3, y4, y5⟩ := hSw; go_simp) | skip
          try with_reducible rfl
        try simp only [Act.put, List.getElem_toArray, List.getElem_cons_succ, List.getElem_cons_zero, List.setIfInBounds_toArray, List.set_cons_zero, List.set_cons_succ]
        refine AnyBut.takeS (i := 4) (v := ?v19) rfl (by kernel_rfl) (Nat.le_of_eq (by kernel_rfl)) (by kernel_rfl) (by kernel_rfl) (fun _ _ _ h => h) (HS12.out) (Or.inl ⟨by kernel_rfl, ?hy19⟩) ?r19
        case hy19 =>
          intro w hSw
          try dsimp only at hSw
          go_simp
          first | (obtain ⟨y0, y1, y2, y3, y4, y5⟩ := hSw; go_simp) | skip
          try with_reducible rfl
        try simp only [Act.put, List.getElem_toArray, List.getElem_cons_succ, List.getElem_cons_zero, List.setIfInBounds_toArray, List.set_cons_zero, List.set_cons_succ]
        refine AnyBut.takeS (i := 5) (v := ?v20) rfl (by kernel_rfl) (Nat.le_of_eq (by kernel_rfl)) (by kernel_rfl) (by kernel_rfl) (fun _ _ _ h => h) (HS12.out) (Or.inl ⟨by kernel_rfl, ?hy20⟩) ?r20
        case hy20 =>
          intro w hSw
          try dsimp only at hSw
          go_simp
          first | (obtain ⟨y0, y1, y2, y3, y4, y5⟩ := hSw; go_simp) | skip
          try with_reducible rfl
        try simp only [Act.put, List.getElem_toArray, List.getElem_cons_succ, List.getElem_cons_zero, List.setIfInBounds_toArray, List.set_cons_zero, List.set_cons_succ]
        refine AnyBut.takeS (i := 6) (v := ?v21) rfl (by kernel_rfl) (Nat.le_of_eq (by kernel_rfl)) (by kernel_rfl) (by kernel_rfl) (fun _ _ _ h => h) (HS12.out) (Or.inl ⟨by kernel_rfl, ?hy21⟩) ?r21
        case hy21 =>
          intro w hSw
          try dsimp only at hSw
          go_simp
          first | (obtain ⟨y0, y1, y2, y3, y4, y5⟩ := hSw; go_simp) | skip
          try with_reducible rfl
        try simp only [Act.put, List.getElem_toArray, List.getElem_cons_succ, List.getElem_cons_zero, List.setIfInBounds_toArray, List.set_cons_zero, List.set_cons_succ]
        refine AnyBut.takeS (i := 7) (v := ?v22) rfl (by kernel_rfl) (Nat.le_of_eq (by kernel_rfl)) (by kernel_rfl) (by kernel_rfl) (fun _ _ _ h => h) (HS12.out) (Or.inl ⟨by kernel_rfl, ?hy22⟩) ?r22
        case hy22 =>
          intro w hSw
          try dsimp only at hSw
          go_simp
          first | (obtain ⟨y0, y1, y2, y3, y4, y5⟩ := hSw; go_simp) | skip
          try with_reducible rfl
        try simp only [Act.put, List.getElem_toArray, List.getElem_cons_succ, List.getElem_cons_zero, List.setIfInBounds_toArray, List.set_cons_zero, List.set_cons_succ]
        refine AnyBut.takeS (i := 8) (v := ?v23) rfl (by kernel_rfl) (Nat.le_of_eq (by kernel_rfl)) (by kernel_rfl) (by kernel_rfl) (fun _ _ _ h => h) (HS12.out) (Or.inl ⟨by kernel_rfl, ?hy23⟩) ?r23
        case hy23 =>
          intro w hSw
          try dsimp only at hSw
          go_simp
          first | (obtain ⟨y0, y1, y2, y3, y4, y5⟩ := hSw; go_simp) | skip
          try with_reducible rfl
        try simp only [Act.put, List.getElem_toArray, List.getElem_cons_succ, List.getElem_cons_zero, List.setIfInBounds_toArray, List.set_cons_zero, List.set_cons_succ]
        refine AnyBut.takeS (i := 9) (v := ?v24) rfl (by kernel_rfl) (Nat.le_of_eq (by kernel_rfl)) (by kernel_rfl) (by kernel_rfl) (fun _ _ _ h => h) (HS12.out) (Or.inl ⟨by kernel_rfl, ?hy24⟩) ?r24
        case hy24 =>
          intro w hSw
          try dsimp only at hSw
          go_simp
          first | (obtain ⟨y0, y1, y2, y3, y4, y5⟩ := hSw; go_simp) | skip
          try with_reducible rfl
        try simp only [Act.put, List.getElem_toArray, List.getElem_cons_succ, List.getElem_cons_zero, List.setIfInBounds_toArray, List.set_cons_zero, List.set_cons_succ]
        refine AnyBut.takeS (i := 10) (v := ?v25) rfl (by kernel_rfl) (Nat.le_of_eq (by kernel_rfl)) (by kernel_rfl) (by kernel_rfl) (fun _ _ _ h => h) (HS12.out) (Or.inl ⟨by kernel_rfl, ?hy25⟩) ?r25
        case hy25 =>
          intro w hSw
          try dsimp only at hSw
          go_simp
          first | (obtain ⟨y0, y1, y2, y3, y4, y5⟩ := hSw; go_simp) | skip
          try with_reducible rfl
        try simp only [Act.put, List.getElem_toArray, List.getElem_cons_succ, List.getElem_cons_zero, List.setIfInBounds_toArray, List.set_cons_zero, List.set_cons_succ]
        refine AnyBut.takeS (i := 11) (v := ?v26) rfl (by kernel_rfl) (Nat.le_of_eq (by kernel_rfl)) (by kernel_rfl) (by kernel_rfl) (fun _ _ _ h => h) (HS12.out) (Or.inl ⟨by kernel_rfl, ?hy26⟩) ?r26
        case hy26 =>
          intro w hSw
          try dsimp only at hSw
          go_simp
          first | (obtain ⟨y0, y1, y2, y3, y4, y5⟩ := hSw; go_simp) | skip
          try with_reducible rfl
        try simp only [Act.put, List.getElem_toArray, List.getElem_cons_succ, List.getElem_cons_zero, List.setIfInBounds_toArray, List.set_cons_zero, List.set_cons_succ]
        refine AnyBut.takeS (i := 12) (v := ?v27) rfl (by kernel_rfl) (Nat.le_of_eq (by kernel_rfl)) (by kernel_rfl) (by kernel_rfl) (fun _ _ _ h => h) (HS12.out) (Or.inl ⟨by kernel_rfl, ?hy27⟩) ?r27
        case hy27 =>
          intro w hSw
          try dsimp only at hSw
          go_simp
          first | (obtain ⟨y0, y1, y2, y3, y4, y5⟩ := hSw; go_simp) | skip
          try with_reducible rfl
        try simp only [Act.put, List.getElem_toArray, List.getElem_cons_succ, List.getElem_cons_zero, List.setIfInBounds_toArray, List.set_cons_zero, List.set_cons_succ]
        refine AnyBut.takeS (i := 13) (v := ?v28) rfl (by kernel_rfl) (Nat.le_of_eq (by kernel_rfl)) (by kernel_rfl) (by kernel_rfl) (fun _ _ _ h => h) (HS12.out) (Or.inl ⟨by kernel_rfl, ?hy28⟩) ?r28
        case hy28 =>
          intro w hSw
          try dsimp only at hSw
          go_simp
          first | (obtain ⟨y0, y1, y2, y3, y4, y5⟩ := hSw; go_simp) | skip
          try with_reducible rfl
        try simp only [Act.put, List.getElem_toArray, List.getElem_cons_succ, List.getElem_cons_zero, List.setIfInBounds_toArray, List.set_cons_zero, List.set_cons_succ]
        refine AnyBut.takeS (i := 14) (v := ?v29) rfl (by kernel_rfl) (Nat.le_of_eq (by kernel_rfl)) (by kernel_rfl) (by kernel_rfl) (fun _ _ _ h => h) (HS12.out) (Or.inl ⟨by kernel_rfl, ?hy29⟩) ?r29
        case hy29 =>
          intro w hSw
          try dsimp only at hSw
          go_simp
          first | (obtain ⟨y0, y1, y2, y3, y4, y5⟩ := hSw; go_simp) | skip
          try with_reducible rfl
        try simp only [Act.put, List.getElem_toArray, List.getElem_cons_succ, List.getElem_cons_zero, List.setIfInBounds_toArray, List.set_cons_zero, List.set_cons_succ]
        refine AnyBut.takeS (i := 15) (v := ?v30) rfl (by kernel_rfl) (Nat.le_of_eq (by kernel_rfl)) (by kernel_rfl) (by kernel_rfl) (fun _ _ _ h => h) (HS12.out) (Or.inl ⟨by kernel_rfl, ?hy30⟩) ?r30
        case hy30 =>
          intro w hSw
          try dsimp only at hSw
          go_simp
          first | (obtain ⟨y0, y1, y2, y3, y4, y5⟩ := hSw; go_simp) | skip
          try with_reducible rfl
        try simp only [Act.put, List.getElem_toArray, List.getElem_cons_succ, List.getElem_cons_zero, List.setIfInBounds_toArray, List.set_cons_zero, List.set_cons_succ]
        refine AnyBut.takeS (i := 16) (v := ?v31) rfl (by kernel_rfl) (Nat.le_of_eq (by kernel_rfl)) (by kernel_rfl) (by kernel_rfl) (fun _ _ _ h => h) (HS12.out) (Or.inl ⟨by kernel_rfl, ?hy31⟩) ?r31
        case hy31 =>
          intro w hSw
          try dsimp only at hSw
          go_simp
          first | (obtain ⟨y0, y1, y2, y3, y4, y5⟩ := hSw; go_simp) | skip
          try with_reducible rfl
        try simp only [Act.put, List.getElem_toArray, List.getElem_cons_succ, List.getElem_cons_zero, List.setIfInBounds_toArray, List.set_cons_zero, List.set_cons_succ]
        refine AnyBut.takeS (i := 17) (v := ?v32) rfl (by kernel_rfl) (Nat.le_of_eq (by kernel_rfl)) (by kernel_rfl) (by kernel_rfl) (fun _ _ _ h => h) (HS12.out) (Or.inl ⟨by kernel_rfl, ?hy32⟩) ?r32
        case hy32 =>
          intro w hSw
          try dsimp only at hSw
          go_simp
          first | (obtain ⟨y0, y1, y2, y3, y4, y5⟩ := hSw; go_simp) | skip
          try with_reducible rfl
        try simp only [Act.put, List.getElem_toArray, List.getElem_cons_succ, List.getElem_cons_zero, List.setIfInBounds_toArray, List.set_cons_zero, List.set_cons_succ]
        refine AnyBut.takeS (i := 18) (v := ?v33) rfl (by kernel_rfl) (Nat.le_of_eq (by kernel_rfl)) (by kernel_rfl) (by kernel_rfl) (fun _ _ _ h => h) (HS12.out) (Or.inl ⟨by kernel_rfl, ?hy33⟩) ?r33
        case hy33 =>
          intro w hSw
          try dsimp only at hSw
          go_simp
          first | (obtain ⟨y0, y1, y2, y3, y4, y5⟩ := hSw; go_simp) | skip
          try with_reducible rfl
        try simp only [Act.put, List.getElem_toArray, List.getElem_cons_succ, List.getElem_cons_zero, List.setIfInBounds_toArray, List.set_cons_zero, List.set_cons_succ]
        refine AnyBut.takeS (i := 19) (v := ?v34) rfl (by kernel_rfl) (Nat.le_of_eq (by kernel_rfl)) (by kernel_rfl) (by kernel_rfl) (fun _ _ _ h => h) (HS12.out) (Or.inl ⟨by kernel_rfl, ?hy34⟩) ?r34
        case hy34 =>
          intro w hSw
          try dsimp only at hSw
          go_simp
          first | (obtain ⟨y0, y1, y2, y3, y4, y5⟩ := hSw; go_simp) | skip
          try with_reducible rfl
        try simp only [Act.put, List.getElem_toArray, List.getElem_cons_succ, List.getElem_cons_zero, List.setIfInBounds_toArray, List.set_cons_zero, List.set_cons_succ]
        refine AnyBut.takeS (i := 20) (v := ?v35) rfl (by kernel_rfl) (Nat.le_of_eq (by kernel_rfl)) (by kernel_rfl) (by kernel_rfl) (fun _ _ _ h => h) (HS12.out) (Or.inl ⟨by kernel_rfl, ?hy35⟩) ?r35
        case hy35 =>
          intro w hSw
          try dsimp only at hSw
          go_simp
          first | (obtain ⟨y0, y1, y2, y3, y4, y5⟩ := hSw; go_simp) | skip
          try with_reducible rfl
        try simp only [Act.put, List.getElem_toArray, List.getElem_cons_succ, List.getElem_cons_zero, List.setIfInBounds_toArray, List.set_cons_zero, List.set_cons_succ]
        refine AnyBut.takeS (i := 21) (v := ?v36) rfl (by kernel_rfl) (Nat.le_of_eq (by kernel_rfl)) (by kernel_rfl) (by kernel_rfl) (fun _ _ _ h => h) (HS12.out) (Or.inl ⟨by kernel_rfl, ?hy36⟩) ?r36
        case hy36 =>
          intro w hSw
          try dsimp only at hSw
          go_simp
          first | (obtain ⟨y0, y1, y2, y3, y4, y5⟩ := hSw; go_simp) | skip
          try with_reducible rfl
        try simp only [Act.put, List.getElem_toArray, List.getElem_cons_succ, List.getElem_cons_zero, List.setIfInBounds_toArray, List.set_cons_zero, List.set_cons_succ]
        refine AnyBut.takeS (i := 22) (v := ?v37) rfl (by kernel_rfl) (Nat.le_of_eq (by kernel_rfl)) (by kernel_rfl) (by kernel_rfl) (fun _ _ _ h => h) (HS12.out) (Or.inl ⟨by kernel_rfl, ?hy37⟩) ?r37
        case hy37 =>
          intro w hSw
          try dsimp only at hSw
          go_simp
          first | (obtain ⟨y0, y1, y2, y3, y4, y5⟩ := hSw; go_simp) | skip
          try with_reducible rfl
        try simp only [Act.put, List.getElem_toArray, List.getElem_cons_succ, List.getElem_cons_zero, List.setIfInBounds_toArray, List.set_cons_zero, List.set_cons_succ]
        refine AnyBut.takeS (i := 23) (v := ?v38) rfl (by kernel_rfl) (Nat.le_of_eq (by kernel_rfl)) (by kernel_rfl) (by kernel_rfl) (fun _ _ _ h => h) (HS12.out) (Or.inl ⟨by kernel_rfl, ?hy38⟩) ?r38
        case hy38 =>
          intro w hSw
          try dsimp only at hSw
          go_simp
          first | (obtain ⟨y0, y1, y2, y3, y4, y5⟩ := hSw; go_simp) | skip
          try with_reducible rfl
        try simp only [Act.put, List.getElem_toArray, List.getElem_cons_succ, List.getElem_cons_zero, List.setIfInBounds_toArray, List.set_cons_zero, List.set_cons_succ]
        refine AnyBut.takeS (i := 24) (v := ?v39) rfl (by kernel_rfl) (Nat.le_of_eq (by kernel_rfl)) (by kernel_rfl) (by kernel_rfl) (fun _ _ _ h => h) (HS12.out) (Or.inl ⟨by kernel_rfl, ?hy39⟩) ?r39
        case hy39 =>
          intro w hSw
          try dsimp only at hSw
          go_simp
          first | (obtain ⟨y0, y1, y2, y3, y4, y5⟩ := hSw; go_simp) | skip
          try with_reducible rfl
        try simp only [Act.put, List.getElem_toArray, List.getElem_cons_succ, List.getElem_cons_zero, List.setIfInBounds_toArray, List.set_cons_zero, List.set_cons_succ]
        refine AnyBut.takeS (i := 25) (v := ?v40) rfl (by kernel_rfl) (Nat.le_of_eq (by kernel_rfl)) (by kernel_rfl) (by kernel_rfl) (fun _ _ _ h => h) (HS12.out) (Or.inl ⟨by kernel_rfl, ?hy40⟩) ?r40
        case hy40 =>
          intro w hSw
          try dsimp only at hSw
          go_simp
          first | (obtain ⟨y0, y1, y2, y3, y4, y5⟩ := hSw; go_simp) | skip
          try with_reducible rfl
        try simp only [Act.put, List.getElem_toArray, List.getElem_cons_succ, List.getElem_cons_zero, List.setIfInBounds_toArray, List.set_cons_zero, List.set_cons_succ]
        refine AnyBut.takeS (i := 26) (v := ?v41) rfl (by kernel_rfl) (Nat.le_of_eq (by kernel_rfl)) (by kernel_rfl) (by kernel_rfl) (fun _ _ _ h => h) (HS12.out) (Or.inl ⟨by kernel_rfl, ?hy41⟩) ?r41
        case hy41 =>
          intro w hSw
          try dsimp only at hSw
          go_simp
          first | (obtain ⟨y0, y1, y2, y3, y4, y5⟩ := hSw; go_simp) | skip
          try with_reducible rfl
        try simp only [Act.put, List.getElem_toArray, List.getElem_cons_succ, List.getElem_cons_zero, List.setIfInBounds_toArray, List.set_cons_zero, List.set_cons_succ]
        refine AnyBut.done (by kernel_rfl) ?_
        go_wp2
        go_roundg (n - (i + 1))
        case measure => have := HD.out; omega
        case rel => exact ⟨i + 1, HD.out, rfl, rfl, HK4.out⟩
      · have hdi : ¬ (i : Int) < (n : Int) := by omega
        clear hd hin hkr
        go_wp2
        go_ret
        exact ⟨rfl, HKD.out.trans (HM3.out.kept.trans HKR.out)⟩
end Go.Proofs.YtficodklidaheaaDoor
