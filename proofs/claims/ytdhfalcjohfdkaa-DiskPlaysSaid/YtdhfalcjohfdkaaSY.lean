/- Layer 18: same (written by tools/gen_XSY.py). -/
import Derived.Test.YtdhfalcjohfdkaaSO
import Derived.Test.YtdhfalcjohfdkaaSU
namespace Go.Proofs.Ytdhfalcjohfdkaa
open Go.RowKit
attribute [local go_sem ↓] Go.wp_at_zero Go.wp_at_succ

theorem usedL_mem : ∀ {M : List (ByteArray × PF)} {p : ByteArray × PF}, p ∈ M → p.2.b.length ≤ usedL M
  | q :: M, p, h => by
    rw [usedL_cons]
    rcases List.mem_cons.1 h with e | e
    · rw [e]; omega
    · have := usedL_mem e; omega
theorem byV_set (l : List Nat) (j x : Nat) : (byV l).set j (.int .u8 (x : Int)) = byV (l.set j x) := by unfold byV; rw [List.map_set]
theorem Mine.setOwn {W w : World} {E : TypeId} {g n c : Nat} {xs : List Value} (h : Mine W w E (.slice (some ⟨g, 0, none⟩) n c) xs) (hn : xs.length = n) (j : Nat) (u : Value) : Mine W (w.setCell ⟨g, j, none⟩ u) E (.slice (some ⟨g, 0, none⟩) n c) (xs.set j u) := by
  have hb : W.heap.size ≤ g := (ownsRow_lt h.own rfl).2
  have h1 := h.own
  rw [hn] at h1
  refine ⟨?_, h.kept.setCell (p := ⟨g, j, none⟩) (fun x => by simp only at x; omega) u⟩
  rw [List.length_set, hn]
  exact owns_set h1 j u
theorem Mine.cellFz {W w : World} {E : TypeId} {a : Option Addr} {n c : Nat} {xs : List Value} (h : Mine W w E (.slice a n c) xs) {j : Nat} {u : Value} (hu : xs[j]? = some u) : ∃ g, a = some ⟨g, 0, none⟩ ∧ w.cell? ⟨g, j, none⟩ = some u ∧ w.frozen? ⟨g, j, none⟩ = false := by
  rcases h.own.2 with ⟨e, e2⟩ | ⟨g, cap, cur, e, hb, hg, hn, hm, hs, ht⟩
  · rw [List.length_eq_zero_iff.1 e2] at hu
    cases hu
  · injection e with e1 e2 e3
    refine ⟨g, e1, ?_, ?_⟩
    · have hc := h.own.cells (g := g) (by rw [e1]; rfl)
      have := hc j u hu
      rw [addr_add0] at this
      exact this
    · simp [World.frozen?, hg]
set_option maxRecDepth 100000 in
set_option maxHeartbeats 16000000 in
theorem same_any (W : World) (db mb : Nat) (L : List (ByteArray × Fi)) (rb : Nat) (ao : Option Addr) (cp : Nat) (LR : List RF) (D : DA) (w : World) (h : Half W w db mb L rb ao cp LR D D) :
    Calls Try.prog 11 #[.pointer (some ⟨db, 0, none⟩), .pointer (some ⟨rb, 0, none⟩)] w fun e w' => e = .returned (.bool true) ∧ Kept (fun _ => False) w w' := by
  have kd : Kept (fun _ => False) w w.drew := (Kept.refl _ _).drew
  have HH := Lib.hid (h.on kd)
  obtain ⟨dn, hdn⟩ : ∃ dn, dn = D.down := ⟨_, rfl⟩
  obtain ⟨cl, hcl⟩ : ∃ cl, cl = D.calls := ⟨_, rfl⟩
  have HDN := Lib.hid (dDown_any W.heap.size db mb L D w.drew HH.out.d)
  have HCL := Lib.hid (dCalls_any W.heap.size db mb L D w.drew HH.out.d)
  rw [← hdn] at HDN
  rw [← hcl] at HCL
  have c2 := HH.out.r.c.2.2.1
  have c3 := HH.out.r.c.2.2.2.1
  rw [← hdn] at c2
  rw [← hcl] at c3
  have HS1 : Hid ((fun w' => w'.cell? ⟨rb, 2, none⟩ = some (.bool dn) ∧ w'.cell? ⟨rb, 3, none⟩ = some (.int .i64 cl)) w.drew) := Lib.hid ⟨c2, c3⟩
  have HNM := Lib.hid (dNames_any W.heap.size db mb L D w.drew HH.out.d)
  have HUS := Lib.hid (fun w' (k : Kept (fun _ => False) w.drew w') => dUsed_any W.heap.size db mb L D w' (HH.out.on k).d)
  have HUR := Lib.hid (fun w' (k : Kept (fun _ => False) w.drew w') => refUsed_any rb ao cp LR D w' (HH.out.on k).r)
  have HRD := Lib.hid (fun s (hs : s.size ≤ maxLen) w' (k : Kept (fun _ => False) w.drew w') => dRead_any W.heap.size db mb L D s hs w' (HH.out.on k).d)
  have HSZ := Lib.hid (fun s (hs : s.size ≤ maxLen) w' (k : Kept (fun _ => False) w.drew w') => dSize_any W.heap.size db mb L D s hs w' (HH.out.on k).d)
  have HDN0 := Lib.hid hdn
  have HKD := Lib.hid kd
  clear h kd hdn hcl
  go_enter Try.func11, Try.ntmps11
  go_upto_region 1 with fail
  refine AnyBut.start (S := fun w' => w'.cell? ⟨rb, 2, none⟩ = some (.bool dn) ∧ w'.cell? ⟨rb, 3, none⟩ = some (.int .i64 cl)) (k := 16) (by kernel_rfl) ?_
  refine AnyBut.takeS (i := 0) (v := ?v1) rfl (by kernel_rfl) (Nat.le_of_eq (by kernel_rfl)) (by kernel_rfl) (by kernel_rfl) (fun _ _ _ h => h) (HS1.out) (Or.inl ⟨by kernel_rfl, ?hy1⟩) ?r1
  case hy1 =>
    intro w hSw
    try dsimp only at hSw
    go_simp
    first | (obtain ⟨y0, y1⟩ := hSw; go_simp) | skip
    try with_reducible rfl
  try simp only [Act.put, List.getElem_toArray, List.getElem_cons_zero, List.setIfInBounds_toArray, List.set_cons_zero, List.set_cons_succ]
  refine AnyBut.takeS (i := 2) (v := ?v2) rfl (by kernel_rfl) (Nat.le_of_eq (by kernel_rfl)) (by kernel_rfl) (by kernel_rfl) (fun _ _ _ h => h) (HS1.out) (Or.inl ⟨by kernel_rfl, ?hy2⟩) ?r2
  case hy2 =>
    intro w hSw
    try dsimp only at hSw
    go_simp
    first | (obtain ⟨y0, y1⟩ := hSw; go_simp) | skip
    try with_reducible rfl
  try simp only [Act.put, List.getElem_toArray, List.getElem_cons_succ, List.getElem_cons_zero, List.setIfInBounds_toArray, List.set_cons_zero, List.set_cons_succ]
  refine AnyBut.takeS (i := 3) (v := ?v3) rfl (by kernel_rfl) (Nat.le_of_eq (by kernel_rfl)) (by kernel_rfl) (by kernel_rfl) (fun _ _ _ h => h) (HS1.out) (Or.inl ⟨by kernel_rfl, ?hy3⟩) ?r3
  case hy3 =>
    intro w hSw
    try dsimp only at hSw
    go_simp
    first | (obtain ⟨y0, y1⟩ := hSw; go_simp) | skip
    try with_reducible rfl
  try simp only [Act.put, List.getElem_toArray, List.getElem_cons_succ, List.getElem_cons_zero, List.setIfInBounds_toArray, List.set_cons_zero, List.set_cons_succ]
  refine AnyBut.takeS (i := 4) (v := ?v4) rfl (by kernel_rfl) (Nat.le_of_eq (by kernel_rfl)) (by kernel_rfl) (by kernel_rfl) (fun _ _ _ h => h) (HS1.out) (Or.inl ⟨by kernel_rfl, ?hy4⟩) ?r4
  case hy4 =>
    intro w hSw
    try dsimp only at hSw
    go_simp
    first | (obtain ⟨y0, y1⟩ := hSw; go_simp) | skip
    try with_reducible rfl
  try simp only [Act.put, List.getElem_toArray, List.getElem_cons_succ, List.getElem_cons_zero, List.setIfInBounds_toArray, List.set_cons_zero, List.set_cons_succ]
  refine AnyBut.takeS (i := 5) (v := ?v5) rfl (by kernel_rfl) (Nat.le_of_eq (by kernel_rfl)) (by kernel_rfl) (by kernel_rfl) (fun _ _ _ h => h) (HS1.out) (Or.inl ⟨by kernel_rfl, ?hy5⟩) ?r5
  case hy5 =>
    intro w hSw
    try dsimp only at hSw
    go_simp
    first | (obtain ⟨y0, y1⟩ := hSw; go_simp) | skip
    try with_reducible rfl
  try simp only [Act.put, List.getElem_toArray, List.getElem_cons_succ, List.getElem_cons_zero, List.setIfInBounds_toArray, List.set_cons_zero, List.set_cons_succ]
  refine AnyBut.one (i := 1) (by kernel_rfl) rfl (fun K hK => ?_)
  go_simp
  go_wp2_with fail
  refine HDN.out.mono ?_
  rintro e w9 ⟨rfl, rfl⟩
  go_wp2
  refine hK.out _ _ (HS1.out) ?_
  clear hK K
  try simp only [Act.put, List.getElem_toArray, List.getElem_cons_succ, List.getElem_cons_zero, List.setIfInBounds_toArray, List.set_cons_zero, List.set_cons_succ]
  refine AnyBut.takeS (i := 6) (v := ?v6) rfl (by kernel_rfl) (Nat.le_of_eq (by kernel_rfl)) (by kernel_rfl) (by kernel_rfl) (fun _ _ _ h => h) (HS1.out) (Or.inl ⟨by kernel_rfl, ?hy6⟩) ?r6
  case hy6 =>
    intro w hSw
    try dsimp only at hSw
    go_simp
    first | (obtain ⟨y0, y1⟩ := hSw; go_simp) | skip
    try with_reducible rfl
  try simp only [Act.put, List.getElem_toArray, List.getElem_cons_succ, List.getElem_cons_zero, List.setIfInBounds_toArray, List.set_cons_zero, List.set_cons_succ]
  refine AnyBut.takeS (i := 7) (v := ?v7) rfl (by kernel_rfl) (Nat.le_of_eq (by kernel_rfl)) (by kernel_rfl) (by kernel_rfl) (fun _ _ _ h => h) (HS1.out) (Or.inl ⟨by kernel_rfl, ?hy7⟩) ?r7
  case hy7 =>
    intro w hSw
    try dsimp only at hSw
    go_simp
    first | (obtain ⟨y0, y1⟩ := hSw; go_simp) | skip
    try with_reducible rfl
  try simp only [Act.put, List.getElem_toArray, List.getElem_cons_succ, List.getElem_cons_zero, List.setIfInBounds_toArray, List.set_cons_zero, List.set_cons_succ]
  refine AnyBut.takeS (i := 8) (v := ?v8) rfl (by kernel_rfl) (Nat.le_of_eq (by kernel_rfl)) (by kernel_rfl) (by kernel_rfl) (fun _ _ _ h => h) (HS1.out) (Or.inl ⟨by kernel_rfl, ?hy8⟩) ?r8
  case hy8 =>
    intro w hSw
    try dsimp only at hSw
    go_simp
    first | (obtain ⟨y0, y1⟩ := hSw; go_simp) | skip
    try with_reducible rfl
  try simp only [Act.put, List.getElem_toArray, List.getElem_cons_succ, List.getElem_cons_zero, List.setIfInBounds_toArray, List.set_cons_zero, List.set_cons_succ]
  refine AnyBut.takeS (i := 10) (v := ?v9) rfl (by kernel_rfl) (Nat.le_of_eq (by kernel_rfl)) (by kernel_rfl) (by kernel_rfl) (fun _ _ _ h => h) (HS1.out) (Or.inl ⟨by kernel_rfl, ?hy9⟩) ?r9
  case hy9 =>
    intro w hSw
    try dsimp only at hSw
    go_simp
    first | (obtain ⟨y0, y1⟩ := hSw; go_simp) | skip
    try with_reducible rfl
  try simp only [Act.put, List.getElem_toArray, List.getElem_cons_succ, List.getElem_cons_zero, List.setIfInBounds_toArray, List.set_cons_zero, List.set_cons_succ]
  refine AnyBut.takeS (i := 11) (v := ?v10) rfl (by kernel_rfl) (Nat.le_of_eq (by kernel_rfl)) (by kernel_rfl) (by kernel_rfl) (fun _ _ _ h => h) (HS1.out) (Or.inl ⟨by kernel_rfl, ?hy10⟩) ?r10
  case hy10 =>
    intro w hSw
    try dsimp only at hSw
    go_simp
    first | (obtain ⟨y0, y1⟩ := hSw; go_simp) | skip
    try with_reducible rfl
  try simp only [Act.put, List.getElem_toArray, List.getElem_cons_succ, List.getElem_cons_zero, List.setIfInBounds_toArray, List.set_cons_zero, List.set_cons_succ]
  refine AnyBut.takeS (i := 12) (v := ?v11) rfl (by kernel_rfl) (Nat.le_of_eq (by kernel_rfl)) (by kernel_rfl) (by kernel_rfl) (fun _ _ _ h => h) (HS1.out) (Or.inl ⟨by kernel_rfl, ?hy11⟩) ?r11
  case hy11 =>
    intro w hSw
    try dsimp only at hSw
    go_simp
    first | (obtain ⟨y0, y1⟩ := hSw; go_simp) | skip
    try with_reducible rfl
  try simp only [Act.put, List.getElem_toArray, List.getElem_cons_succ, List.getElem_cons_zero, List.setIfInBounds_toArray, List.set_cons_zero, List.set_cons_succ]
  refine AnyBut.takeS (i := 13) (v := ?v12) rfl (by kernel_rfl) (Nat.le_of_eq (by kernel_rfl)) (by kernel_rfl) (by kernel_rfl) (fun _ _ _ h => h) (HS1.out) (Or.inl ⟨by kernel_rfl, ?hy12⟩) ?r12
  case hy12 =>
    intro w hSw
    try dsimp only at hSw
    go_simp
    first | (obtain ⟨y0, y1⟩ := hSw; go_simp) | skip
    try with_reducible rfl
  try simp only [Act.put, List.getElem_toArray, List.getElem_cons_succ, List.getElem_cons_zero, List.setIfInBounds_toArray, List.set_cons_zero, List.set_cons_succ]
  refine AnyBut.one (i := 9) (by kernel_rfl) rfl (fun K hK => ?_)
  go_simp
  go_wp2_with fail
  refine HCL.out.mono ?_
  rintro e w9 ⟨rfl, rfl⟩
  go_wp2
  refine hK.out _ _ (HS1.out) ?_
  clear hK K
  try simp only [Act.put, List.getElem_toArray, List.getElem_cons_succ, List.getElem_cons_zero, List.setIfInBounds_toArray, List.set_cons_zero, List.set_cons_succ]
  refine AnyBut.takeS (i := 14) (v := ?v13) rfl (by kernel_rfl) (Nat.le_of_eq (by kernel_rfl)) (by kernel_rfl) (by kernel_rfl) (fun _ _ _ h => h) (HS1.out) (Or.inl ⟨by kernel_rfl, ?hy13⟩) ?r13
  case hy13 =>
    intro w hSw
    try dsimp only at hSw
    go_simp
    first | (obtain ⟨y0, y1⟩ := hSw; go_simp) | skip
    try with_reducible rfl
  try simp only [Act.put, List.getElem_toArray, List.getElem_cons_succ, List.getElem_cons_zero, List.setIfInBounds_toArray, List.set_cons_zero, List.set_cons_succ]
  refine AnyBut.takeS (i := 15) (v := ?v14) rfl (by kernel_rfl) (Nat.le_of_eq (by kernel_rfl)) (by kernel_rfl) (by kernel_rfl) (fun _ _ _ h => h) (HS1.out) (Or.inl ⟨by kernel_rfl, ?hy14⟩) ?r14
  case hy14 =>
    intro w hSw
    try dsimp only at hSw
    go_simp
    first | (obtain ⟨y0, y1⟩ := hSw; go_simp) | skip
    try with_reducible rfl
  try simp only [Act.put, List.getElem_toArray, List.getElem_cons_succ, List.getElem_cons_zero, List.setIfInBounds_toArray, List.set_cons_zero, List.set_cons_succ]
  refine AnyBut.done (by kernel_rfl) ?_
  go_wp2_with fail
  refine HNM.out.mono ?_
  rintro e w3 ⟨v3, rfl, m3⟩
  obtain ⟨na, nc, rfl⟩ := m3.slice
  have HM3 := Lib.hid m3
  have d2 := m3.kept.cell c2 (fun x => x)
  clear c2 c3 m3
  cases dn with
  | true =>
    have e1 : namesUp D = [] := by unfold namesUp; rw [if_pos HDN0.out.symm]
    have e2 : usedA D = 0 := by unfold usedA; rw [if_pos HDN0.out.symm]
    have e3 : readA D { data := #[97] } = ([], 13) := by unfold readA; rw [if_pos HDN0.out.symm]
    have e4 : sizeA D { data := #[97] } = (0, 0, 13) := by unfold sizeA; rw [if_pos HDN0.out.symm]
    rw [show (strs (namesUp D)).length = 0 by rw [e1]; rfl]
    rw [e2] at HUS
    have HR1 := Lib.hid (HRD.out { data := #[97] } (by unfold maxLen; decide) w3 HM3.out.kept)
    have HZ1 := Lib.hid (fun w' k => HSZ.out { data := #[97] } (by unfold maxLen; decide) w' k)
    rw [e3] at HR1
    rw [e4] at HZ1
    clear e1 e2 e3 e4
    go_wp2_with fail
    refine HR1.out.mono ?_
    rintro e w4 ⟨a4, c4, rfl, m4⟩
    have HK4 := Lib.hid (HM3.out.kept.trans m4.kept)
    clear m4
    go_wp2_with fail
    refine (HZ1.out w4 HK4.out).mono ?_
    rintro e w5 ⟨rfl, k5⟩
    have HK5 := Lib.hid (HK4.out.trans k5)
    clear k5
    go_wp2_with fail
    refine (HUS.out w5 HK5.out).mono ?_
    rintro e w6 ⟨rfl, rfl⟩
    go_wp2
    go_ret
    exact ⟨rfl, HKD.out.trans HK5.out⟩
  | false =>
    have e1 : namesUp D = namesA D.L := by unfold namesUp; rw [if_neg (by rw [← HDN0.out]; decide)]
    have e2 : usedA D = (usedL D.L : Int) := by unfold usedA; rw [if_neg (by rw [← HDN0.out]; decide)]
    have hlen : (strs (namesUp D)).length = LR.length := by rw [e1, strs_length]; unfold namesA; rw [List.length_map, HH.out.r.len]
    have HE1 := Lib.hid e1
    rw [hlen] at HM3 ⊢
    obtain ⟨n, hn⟩ : ∃ n, n = LR.length := ⟨_, rfl⟩
    have HLN := Lib.hid hn
    have hn4 : n ≤ 4096 := by have h1 := HH.out.r.len; have h2 := HH.out.r.ok.count; omega
    have b0 := (HH.out.on HM3.out.kept).r.c.1
    rw [← hn] at HM3 b0 ⊢
    rw [e2] at HUS
    obtain ⟨u, hu⟩ : ∃ u : Int, u = (usedL D.L : Int) := ⟨_, rfl⟩
    rw [← hu] at HUS HUR
    clear e1 e2 hlen hn hu
    go_wp2_with fail
    refine (HUS.out w3 HM3.out.kept).mono ?_
    rintro e w3' ⟨rfl, rfl⟩
    go_wp2_with fail
    refine (HUR.out w3 HM3.out.kept).mono ?_
    rintro e w3' ⟨rfl, rfl⟩
    go_wp2
    go_loopg [11] n (fun g s11 wr => ∃ i : Nat, i ≤ n ∧ g = n - i ∧ s11 = .int .i64 i ∧ Kept (fun _ => False) w3 wr)
    case atStart => exact ⟨0, Nat.zero_le _, rfl, rfl, Kept.refl _ _⟩
    case round =>
      obtain ⟨i, hin, rfl, rfl, hkr⟩ := hrel
      have HKR := Lib.hid hkr
      by_cases hd : i < n
      · have hdi : (i : Int) < (n : Int) := by omega
        have HD := Lib.hid hd
        have wi : IntKind.i64.wrap ((i : Int) + 1) = ((i + 1 : Nat) : Int) := by rw [IntWalk.i64_in _ ⟨by omega, by omega⟩]; omega
        obtain ⟨f, hf⟩ : ∃ f, LR[i]? = some f := ⟨_, List.getElem?_eq_getElem (by have := HLN.out; omega)⟩
        have hfD := HH.out.r.get hf
        have hmem := List.mem_of_getElem? hf
        have hgs : getM D.L f.nm = some ⟨f.b, f.s⟩ := getM_of HH.out.r.ok.asc.pair (List.mem_of_getElem? hfD)
        have hnmB := HH.out.r.ok.name _ (List.mem_of_getElem? hfD)
        have hsz : f.nm.size ≤ 32 := (nameB_size hnmB).2
        have hdat := HH.out.r.data f hmem
        have hbyte := HH.out.r.ok.byte _ (List.mem_of_getElem? hfD)
        have hblen : f.b.length ≤ 4194304 := by
          have h1 := (hdat).2
          have h2 := usedL_mem (List.mem_of_getElem? hfD)
          have h3 := HH.out.r.ok.used
          have h4 := HH.out.r.ok.capR.2
          simp only [RF.t] at h2
          omega
        have hni : (strs (namesUp D))[i]? = some (.string f.nm) := by
          rw [HE1.out]
          unfold strs namesA
          rw [List.getElem?_map, List.getElem?_map, hfD]; rfl
        obtain ⟨ng, no, hna, hnc⟩ := (HM3.out.at_.kept hkr (fun _ _ x => x)).elem hni
        subst hna
        obtain ⟨rg, ro, hra, hrc⟩ := (HH.out.on (HM3.out.kept.trans hkr)).r.row (by have := HLN.out; omega)
        subst hra
        have r0 := hrc i f hf 0 (.string f.nm) rfl
        have r1 := hrc i f hf 1 (.slice f.a f.b.length f.c) rfl
        have r2 := hrc i f hf 2 (.int .i64 (f.s : Int)) rfl
        rw [Nat.add_zero] at r0
        have bx := (HH.out.on (HM3.out.kept.trans hkr)).r.c.1
        rw [← HLN.out] at bx
        have ra : readA D f.nm = (f.b, 0) := by unfold readA; rw [if_neg (by rw [← HDN0.out]; decide), hgs]
        have sa : sizeA D f.nm = ((f.b.length : Int), (f.s : Int), 0) := by unfold sizeA; rw [if_neg (by rw [← HDN0.out]; decide), hgs]
        have HR1 := Lib.hid (HRD.out f.nm (by unfold maxLen; omega) wr (HM3.out.kept.trans hkr))
        have HZ1 := Lib.hid (fun w' k => HSZ.out f.nm (by unfold maxLen; omega) w' k)
        rw [ra] at HR1
        rw [sa] at HZ1
        obtain ⟨s, fa, fc, fb, fs⟩ := f
        obtain ⟨fn, hfn⟩ : ∃ fn, fn = fb.length := ⟨_, rfl⟩
        dsimp only at HR1 HZ1 r0 r1 r2 hbyte hblen hsz
        unfold ReadTo at HR1
        dsimp only at HR1
        rw [← hfn] at HR1 HZ1 r1 hblen
        have HDAT := Lib.hid hdat
        have HBY := Lib.hid hbyte
        have HFN := Lib.hid hfn
        have HNC := Lib.hid hnc
        have HGET := Lib.hid hf
        have HRC := Lib.hid (And.intro r0 (And.intro r1 (And.intro r2 bx)))
        clear hkr hf hfD hmem hgs hnmB hsz hdat hbyte hni hrc ra sa hfn hd hin r0 r1 r2 bx
        go_wp2_with fail
        refine HR1.out.mono ?_
        rintro e w4 ⟨a4, c4, rfl, m4⟩
        have HM4 := Lib.hid m4
        have HK4 := Lib.hid (HKR.out.trans m4.kept)
        have hnc4 := m4.kept.cell hnc (fun x => x)
        clear m4 hnc
        go_wp2_with fail
        refine (HZ1.out w4 (HM3.out.kept.trans HK4.out)).mono ?_
        rintro e w5 ⟨rfl, k5⟩
        have HK45 := Lib.hid k5
        have kr5 := HM4.out.kept.trans k5
        have HK5 := Lib.hid (HK4.out.trans k5)
        have x0 := kr5.cell HRC.out.1 (fun x => x)
        have x1 := kr5.cell HRC.out.2.1 (fun x => x)
        have x2 := kr5.cell HRC.out.2.2.1 (fun x => x)
        have x3 := kr5.cell HRC.out.2.2.2 (fun x => x)
        have hnc5 := k5.cell hnc4 (fun x => x)
        obtain ⟨q, hq⟩ : ∃ q, q = w5.heap.size := ⟨_, rfl⟩
        obtain ⟨w7, hw7⟩ : ∃ w7, w7 = w5.alloc (.cells #[.string s, .slice fa fn fc, .int .i64 (fs : Int)] 68) := ⟨_, rfl⟩
        have k7 : Kept (fun _ => False) w5 w7.drew := (show Kept (fun _ => False) w5 w7 by rw [hw7]; exact (Kept.refl _ _).alloc _).trans ((Kept.refl _ _).drew)
        have B7 : BoxAt w7.drew q 68 #[.string s, .slice fa fn fc, .int .i64 (fs : Int)] := (show BoxAt w7 q 68 #[.string s, .slice fa fn fc, .int .i64 (fs : Int)] by rw [hw7, hq]; exact BoxAt.new w5 _ _).kept ((Kept.refl (fun _ => False) _).drew) (fun x => x)
        have HW7 := Lib.hid (And.intro hw7 hq)
        have HK7 := Lib.hid (HK5.out.trans k7)
        have HM7 := Lib.hid (HM4.out.on (k5.trans k7))
        obtain ⟨T, hT⟩ : ∃ T, T = strL fb := ⟨_, rfl⟩
        have cv1 := run_strL (HM7.out.at_) 39 5 9 Try.underlying39 Try.underlying5 Try.underlying9
        have hd7 : SlAt w7.drew (.slice fa fn fc) (byV fb) := by
          have h := ((HH.out.on (HM3.out.kept.trans HK7.out)).r.data _ (List.mem_of_getElem? (i := i) (show LR[i]? = some ⟨s, fa, fc, fb, fs⟩ from HGET.out))).1
          unfold RF.v at h
          rw [HFN.out]
          exact h
        have cv2 := run_strL hd7 39 5 9 Try.underlying39 Try.underlying5 Try.underlying9
        rw [← hT] at cv1 cv2
        have HS16 : Hid ((fun w' => w'.cell? ⟨ng, no + i, none⟩ = some (.string s) ∧ w'.cell? ⟨q, 0, none⟩ = some (.string s) ∧ w'.cell? ⟨q, 1, none⟩ = some (.slice fa fn fc) ∧ w'.cell? ⟨q, 2, none⟩ = some (.int .i64 (fs : Int)) ∧ (convert 39 9 (.slice a4 fn c4)).run Try.prog w' = .ok (.string T) w' ∧ (convert 39 9 (.slice fa fn fc)).run Try.prog w' = .ok (.string T) w') w7.drew) := Lib.hid ⟨k7.cell hnc5 (fun x => x), B7.cell rfl, B7.cell rfl, B7.cell rfl, cv1, cv2⟩
        clear k5 kr5 hq hw7 k7 B7 hT cv1 cv2 hd7 hnc4
        go_upto_region 16 with fail
        rw [← HW7.out.1, ← HW7.out.2]
        refine AnyBut.start (S := fun w' => w'.cell? ⟨ng, no + i, none⟩ = some (.string s) ∧ w'.cell? ⟨q, 0, none⟩ = some (.string s) ∧ w'.cell? ⟨q, 1, none⟩ = some (.slice fa fn fc) ∧ w'.cell? ⟨q, 2, none⟩ = some (.int .i64 (fs : Int)) ∧ (convert 39 9 (.slice a4 fn c4)).run Try.prog w' = .ok (.string T) w' ∧ (convert 39 9 (.slice fa fn fc)).run Try.prog w' = .ok (.string T) w') (k := 36) (by kernel_rfl) ?_
        refine AnyBut.takeS (i := 0) (v := ?v15) rfl (by kernel_rfl) (Nat.le_of_eq (by kernel_rfl)) (by kernel_rfl) (by kernel_rfl) (fun _ _ _ h => h) (HS16.out) (Or.inl ⟨by kernel_rfl, ?hy15⟩) ?r15
        case hy15 =>
          intro w hSw
          try dsimp only at hSw
          go_simp
          first | (obtain ⟨y0, y1, y2, y3, y4, y5⟩ := hSw; go_simp) | skip
          try with_reducible rfl
        try simp only [Act.put, List.getElem_toArray, List.getElem_cons_zero, List.setIfInBounds_toArray, List.set_cons_zero, List.set_cons_succ]
        refine AnyBut.takeS (i := 1) (v := ?v16) rfl (by kernel_rfl) (Nat.le_of_eq (by kernel_rfl)) (by kernel_rfl) (by kernel_rfl) (fun _ _ _ h => h) (HS16.out) (Or.inl ⟨by kernel_rfl, ?hy16⟩) ?r16
        case hy16 =>
          intro w hSw
          try dsimp only at hSw
          go_simp
          first | (obtain ⟨y0, y1, y2, y3, y4, y5⟩ := hSw; go_simp) | skip
          try with_reducible rfl
        try simp only [Act.put, List.getElem_toArray, List.getElem_cons_succ, List.getElem_cons_zero, List.setIfInBounds_toArray, List.set_cons_zero, List.set_cons_succ]
        refine AnyBut.takeS (i := 2) (v := ?v17) rfl (by kernel_rfl) (Nat.le_of_eq (by kernel_rfl)) (by kernel_rfl) (by kernel_rfl) (fun _ _ _ h => h) (HS16.out) (Or.inl ⟨by kernel_rfl, ?hy17⟩) ?r17
        case hy17 =>
          intro w hSw
          try dsimp only at hSw
          go_simp
          first | (obtain ⟨y0, y1, y2, y3, y4, y5⟩ := hSw; go_simp) | skip
          try with_reducible rfl
        try simp only [Act.put, List.getElem_toArray, List.getElem_cons_succ, List.getElem_cons_zero, List.setIfInBounds_toArray, List.set_cons_zero, List.set_cons_succ]
        refine AnyBut.takeS (i := 3) (v := ?v18) rfl (by kernel_rfl) (Nat.le_of_eq (by kernel_rfl)) (by kernel_rfl) (by kernel_rfl) (fun _ _ _ h => h) (HS16.out) (Or.inl ⟨by kernel_rfl, ?hy18⟩) ?r18
        case hy18 =>
          intro w hSw
          try dsimp only at hSw
          go_simp
          first | (obtain ⟨y0, y1, y2, y3, y4, y5⟩ := hSw; go_simp) | skip
          try with_reducible rfl
        try simp only [Act.put, List.getElem_toArray, List.getElem_cons_succ, List.getElem_cons_zero, List.setIfInBounds_toArray, List.set_cons_zero, List.set_cons_succ]
        refine AnyBut.takeS (i := 4) (v := ?v19) rfl (by kernel_rfl) (Nat.le_of_eq (by kernel_rfl)) (by kernel_rfl) (by kernel_rfl) (fun _ _ _ h => h) (HS16.out) (Or.inl ⟨by kernel_rfl, ?hy19⟩) ?r19
        case hy19 =>
          intro w hSw
          try dsimp only at hSw
          go_simp
          first | (obtain ⟨y0, y1, y2, y3, y4, y5⟩ := hSw; go_simp) | skip
          try with_reducible rfl
        try simp only [Act.put, List.getElem_toArray, List.getElem_cons_succ, List.getElem_cons_zero, List.setIfInBounds_toArray, List.set_cons_zero, List.set_cons_succ]
        refine AnyBut.takeS (i := 5) (v := ?v20) rfl (by kernel_rfl) (Nat.le_of_eq (by kernel_rfl)) (by kernel_rfl) (by kernel_rfl) (fun _ _ _ h => h) (HS16.out) (Or.inl ⟨by kernel_rfl, ?hy20⟩) ?r20
        case hy20 =>
          intro w hSw
          try dsimp only at hSw
          go_simp
          first | (obtain ⟨y0, y1, y2, y3, y4, y5⟩ := hSw; go_simp) | skip
          try with_reducible rfl
        try simp only [Act.put, List.getElem_toArray, List.getElem_cons_succ, List.getElem_cons_zero, List.setIfInBounds_toArray, List.set_cons_zero, List.set_cons_succ]
        refine AnyBut.takeS (i := 6) (v := ?v21) rfl (by kernel_rfl) (Nat.le_of_eq (by kernel_rfl)) (by kernel_rfl) (by kernel_rfl) (fun _ _ _ h => h) (HS16.out) (Or.inl ⟨by kernel_rfl, ?hy21⟩) ?r21
        case hy21 =>
          intro w hSw
          try dsimp only at hSw
          go_simp
          first | (obtain ⟨y0, y1, y2, y3, y4, y5⟩ := hSw; go_simp) | skip
          try with_reducible rfl
        try simp only [Act.put, List.getElem_toArray, List.getElem_cons_succ, List.getElem_cons_zero, List.setIfInBounds_toArray, List.set_cons_zero, List.set_cons_succ]
        refine AnyBut.takeS (i := 7) (v := ?v22) rfl (by kernel_rfl) (Nat.le_of_eq (by kernel_rfl)) (by kernel_rfl) (by kernel_rfl) (fun _ _ _ h => h) (HS16.out) (Or.inl ⟨by kernel_rfl, ?hy22⟩) ?r22
        case hy22 =>
          intro w hSw
          try dsimp only at hSw
          go_simp
          first | (obtain ⟨y0, y1, y2, y3, y4, y5⟩ := hSw; go_simp) | skip
          try with_reducible rfl
        try simp only [Act.put, List.getElem_toArray, List.getElem_cons_succ, List.getElem_cons_zero, List.setIfInBounds_toArray, List.set_cons_zero, List.set_cons_succ]
        refine AnyBut.takeS (i := 8) (v := ?v23) rfl (by kernel_rfl) (Nat.le_of_eq (by kernel_rfl)) (by kernel_rfl) (by kernel_rfl) (fun _ _ _ h => h) (HS16.out) (Or.inl ⟨by kernel_rfl, ?hy23⟩) ?r23
        case hy23 =>
          intro w hSw
          try dsimp only at hSw
          go_simp
          first | (obtain ⟨y0, y1, y2, y3, y4, y5⟩ := hSw; go_simp) | skip
          try with_reducible rfl
        try simp only [Act.put, List.getElem_toArray, List.getElem_cons_succ, List.getElem_cons_zero, List.setIfInBounds_toArray, List.set_cons_zero, List.set_cons_succ]
        refine AnyBut.takeS (i := 9) (v := ?v24) rfl (by kernel_rfl) (Nat.le_of_eq (by kernel_rfl)) (by kernel_rfl) (by kernel_rfl) (fun _ _ _ h => h) (HS16.out) (Or.inl ⟨by kernel_rfl, ?hy24⟩) ?r24
        case hy24 =>
          intro w hSw
          try dsimp only at hSw
          go_simp
          first | (obtain ⟨y0, y1, y2, y3, y4, y5⟩ := hSw; go_simp) | skip
          try with_reducible rfl
        try simp only [Act.put, List.getElem_toArray, List.getElem_cons_succ, List.getElem_cons_zero, List.setIfInBounds_toArray, List.set_cons_zero, List.set_cons_succ]
        refine AnyBut.takeS (i := 10) (v := ?v25) rfl (by kernel_rfl) (Nat.le_of_eq (by kernel_rfl)) (by kernel_rfl) (by kernel_rfl) (fun _ _ _ h => h) (HS16.out) (Or.inl ⟨by kernel_rfl, ?hy25⟩) ?r25
        case hy25 =>
          intro w hSw
          try dsimp only at hSw
          go_simp
          first | (obtain ⟨y0, y1, y2, y3, y4, y5⟩ := hSw; go_simp) | skip
          try with_reducible rfl
        try simp only [Act.put, List.getElem_toArray, List.getElem_cons_succ, List.getElem_cons_zero, List.setIfInBounds_toArray, List.set_cons_zero, List.set_cons_succ]
        refine AnyBut.takeS (i := 11) (v := ?v26) rfl (by kernel_rfl) (Nat.le_of_eq (by kernel_rfl)) (by kernel_rfl) (by kernel_rfl) (fun _ _ _ h => h) (HS16.out) (Or.inl ⟨by kernel_rfl, ?hy26⟩) ?r26
        case hy26 =>
          intro w hSw
          try dsimp only at hSw
          go_simp
          first | (obtain ⟨y0, y1, y2, y3, y4, y5⟩ := hSw; go_simp) | skip
          try with_reducible rfl
        try simp only [Act.put, List.getElem_toArray, List.getElem_cons_succ, List.getElem_cons_zero, List.setIfInBounds_toArray, List.set_cons_zero, List.set_cons_succ]
        refine AnyBut.takeS (i := 12) (v := ?v27) rfl (by kernel_rfl) (Nat.le_of_eq (by kernel_rfl)) (by kernel_rfl) (by kernel_rfl) (fun _ _ _ h => h) (HS16.out) (Or.inl ⟨by kernel_rfl, ?hy27⟩) ?r27
        case hy27 =>
          intro w hSw
          try dsimp only at hSw
          go_simp
          first | (obtain ⟨y0, y1, y2, y3, y4, y5⟩ := hSw; go_simp) | skip
          try with_reducible rfl
        try simp only [Act.put, List.getElem_toArray, List.getElem_cons_succ, List.getElem_cons_zero, List.setIfInBounds_toArray, List.set_cons_zero, List.set_cons_succ]
        refine AnyBut.takeS (i := 13) (v := ?v28) rfl (by kernel_rfl) (Nat.le_of_eq (by kernel_rfl)) (by kernel_rfl) (by kernel_rfl) (fun _ _ _ h => h) (HS16.out) (Or.inl ⟨by kernel_rfl, ?hy28⟩) ?r28
        case hy28 =>
          intro w hSw
          try dsimp only at hSw
          go_simp
          first | (obtain ⟨y0, y1, y2, y3, y4, y5⟩ := hSw; go_simp) | skip
          try with_reducible rfl
        try simp only [Act.put, List.getElem_toArray, List.getElem_cons_succ, List.getElem_cons_zero, List.setIfInBounds_toArray, List.set_cons_zero, List.set_cons_succ]
        refine AnyBut.takeS (i := 14) (v := ?v29) rfl (by kernel_rfl) (Nat.le_of_eq (by kernel_rfl)) (by kernel_rfl) (by kernel_rfl) (fun _ _ _ h => h) (HS16.out) (Or.inl ⟨by kernel_rfl, ?hy29⟩) ?r29
        case hy29 =>
          intro w hSw
          try dsimp only at hSw
          go_simp
          first | (obtain ⟨y0, y1, y2, y3, y4, y5⟩ := hSw; go_simp) | skip
          try with_reducible rfl
        try simp only [Act.put, List.getElem_toArray, List.getElem_cons_succ, List.getElem_cons_zero, List.setIfInBounds_toArray, List.set_cons_zero, List.set_cons_succ]
        refine AnyBut.takeS (i := 15) (v := ?v30) rfl (by kernel_rfl) (Nat.le_of_eq (by kernel_rfl)) (by kernel_rfl) (by kernel_rfl) (fun _ _ _ h => h) (HS16.out) (Or.inl ⟨by kernel_rfl, ?hy30⟩) ?r30
        case hy30 =>
          intro w hSw
          try dsimp only at hSw
          go_simp
          first | (obtain ⟨y0, y1, y2, y3, y4, y5⟩ := hSw; go_simp) | skip
          try with_reducible rfl
        try simp only [Act.put, List.getElem_toArray, List.getElem_cons_succ, List.getElem_cons_zero, List.setIfInBounds_toArray, List.set_cons_zero, List.set_cons_succ]
        refine AnyBut.takeS (i := 16) (v := ?v31) rfl (by kernel_rfl) (Nat.le_of_eq (by kernel_rfl)) (by kernel_rfl) (by kernel_rfl) (fun _ _ _ h => h) (HS16.out) (Or.inl ⟨by kernel_rfl, ?hy31⟩) ?r31
        case hy31 =>
          intro w hSw
          try dsimp only at hSw
          go_simp
          first | (obtain ⟨y0, y1, y2, y3, y4, y5⟩ := hSw; go_simp) | skip
          try with_reducible rfl
        try simp only [Act.put, List.getElem_toArray, List.getElem_cons_succ, List.getElem_cons_zero, List.setIfInBounds_toArray, List.set_cons_zero, List.set_cons_succ]
        refine AnyBut.takeS (i := 17) (v := ?v32) rfl (by kernel_rfl) (Nat.le_of_eq (by kernel_rfl)) (by kernel_rfl) (by kernel_rfl) (fun _ _ _ h => h) (HS16.out) (Or.inl ⟨by kernel_rfl, ?hy32⟩) ?r32
        case hy32 =>
          intro w hSw
          try dsimp only at hSw
          go_simp
          first | (obtain ⟨y0, y1, y2, y3, y4, y5⟩ := hSw; go_simp) | skip
          try with_reducible rfl
        try simp only [Act.put, List.getElem_toArray, List.getElem_cons_succ, List.getElem_cons_zero, List.setIfInBounds_toArray, List.set_cons_zero, List.set_cons_succ]
        refine AnyBut.takeS (i := 18) (v := ?v33) rfl (by kernel_rfl) (Nat.le_of_eq (by kernel_rfl)) (by kernel_rfl) (by kernel_rfl) (fun _ _ _ h => h) (HS16.out) (Or.inl ⟨by kernel_rfl, ?hy33⟩) ?r33
        case hy33 =>
          intro w hSw
          try dsimp only at hSw
          go_simp
          first | (obtain ⟨y0, y1, y2, y3, y4, y5⟩ := hSw; go_simp) | skip
          try with_reducible rfl
        try simp only [Act.put, List.getElem_toArray, List.getElem_cons_succ, List.getElem_cons_zero, List.setIfInBounds_toArray, List.set_cons_zero, List.set_cons_succ]
        refine AnyBut.takeS (i := 19) (v := ?v34) rfl (by kernel_rfl) (Nat.le_of_eq (by kernel_rfl)) (by kernel_rfl) (by kernel_rfl) (fun _ _ _ h => h) (HS16.out) (Or.inl ⟨by kernel_rfl, ?hy34⟩) ?r34
        case hy34 =>
          intro w hSw
          try dsimp only at hSw
          go_simp
          first | (obtain ⟨y0, y1, y2, y3, y4, y5⟩ := hSw; go_simp) | skip
          try with_reducible rfl
        try simp only [Act.put, List.getElem_toArray, List.getElem_cons_succ, List.getElem_cons_zero, List.setIfInBounds_toArray, List.set_cons_zero, List.set_cons_succ]
        refine AnyBut.takeS (i := 20) (v := ?v35) rfl (by kernel_rfl) (Nat.le_of_eq (by kernel_rfl)) (by kernel_rfl) (by kernel_rfl) (fun _ _ _ h => h) (HS16.out) (Or.inl ⟨by kernel_rfl, ?hy35⟩) ?r35
        case hy35 =>
          intro w hSw
          try dsimp only at hSw
          go_simp
          first | (obtain ⟨y0, y1, y2, y3, y4, y5⟩ := hSw; go_simp) | skip
          try with_reducible rfl
        try simp only [Act.put, List.getElem_toArray, List.getElem_cons_succ, List.getElem_cons_zero, List.setIfInBounds_toArray, List.set_cons_zero, List.set_cons_succ]
        refine AnyBut.takeS (i := 21) (v := ?v36) rfl (by kernel_rfl) (Nat.le_of_eq (by kernel_rfl)) (by kernel_rfl) (by kernel_rfl) (fun _ _ _ h => h) (HS16.out) (Or.inl ⟨by kernel_rfl, ?hy36⟩) ?r36
        case hy36 =>
          intro w hSw
          try dsimp only at hSw
          go_simp
          first | (obtain ⟨y0, y1, y2, y3, y4, y5⟩ := hSw; go_simp) | skip
          try with_reducible rfl
        try simp only [Act.put, List.getElem_toArray, List.getElem_cons_succ, List.getElem_cons_zero, List.setIfInBounds_toArray, List.set_cons_zero, List.set_cons_succ]
        refine AnyBut.takeS (i := 22) (v := ?v37) rfl (by kernel_rfl) (Nat.le_of_eq (by kernel_rfl)) (by kernel_rfl) (by kernel_rfl) (fun _ _ _ h => h) (HS16.out) (Or.inl ⟨by kernel_rfl, ?hy37⟩) ?r37
        case hy37 =>
          intro w hSw
          try dsimp only at hSw
          go_simp
          first | (obtain ⟨y0, y1, y2, y3, y4, y5⟩ := hSw; go_simp) | skip
          try with_reducible rfl
        try simp only [Act.put, List.getElem_toArray, List.getElem_cons_succ, List.getElem_cons_zero, List.setIfInBounds_toArray, List.set_cons_zero, List.set_cons_succ]
        refine AnyBut.takeS (i := 23) (v := ?v38) rfl (by kernel_rfl) (Nat.le_of_eq (by kernel_rfl)) (by kernel_rfl) (by kernel_rfl) (fun _ _ _ h => h) (HS16.out) (Or.inl ⟨by kernel_rfl, ?hy38⟩) ?r38
        case hy38 =>
          intro w hSw
          try dsimp only at hSw
          go_simp
          first | (obtain ⟨y0, y1, y2, y3, y4, y5⟩ := hSw; go_simp) | skip
          try with_reducible rfl
        try simp only [Act.put, List.getElem_toArray, List.getElem_cons_succ, List.getElem_cons_zero, List.setIfInBounds_toArray, List.set_cons_zero, List.set_cons_succ]
        refine AnyBut.takeS (i := 24) (v := ?v39) rfl (by kernel_rfl) (Nat.le_of_eq (by kernel_rfl)) (by kernel_rfl) (by kernel_rfl) (fun _ _ _ h => h) (HS16.out) (Or.inl ⟨by kernel_rfl, ?hy39⟩) ?r39
        case hy39 =>
          intro w hSw
          try dsimp only at hSw
          go_simp
          first | (obtain ⟨y0, y1, y2, y3, y4, y5⟩ := hSw; go_simp) | skip
          try with_reducible rfl
        try simp only [Act.put, List.getElem_toArray, List.getElem_cons_succ, List.getElem_cons_zero, List.setIfInBounds_toArray, List.set_cons_zero, List.set_cons_succ]
        refine AnyBut.takeS (i := 25) (v := ?v40) rfl (by kernel_rfl) (Nat.le_of_eq (by kernel_rfl)) (by kernel_rfl) (by kernel_rfl) (fun _ _ _ h => h) (HS16.out) (Or.inl ⟨by kernel_rfl, ?hy40⟩) ?r40
        case hy40 =>
          intro w hSw
          try dsimp only at hSw
          go_simp
          first | (obtain ⟨y0, y1, y2, y3, y4, y5⟩ := hSw; go_simp) | skip
          try with_reducible rfl
        try simp only [Act.put, List.getElem_toArray, List.getElem_cons_succ, List.getElem_cons_zero, List.setIfInBounds_toArray, List.set_cons_zero, List.set_cons_succ]
        refine AnyBut.takeS (i := 26) (v := ?v41) rfl (by kernel_rfl) (Nat.le_of_eq (by kernel_rfl)) (by kernel_rfl) (by kernel_rfl) (fun _ _ _ h => h) (HS16.out) (Or.inl ⟨by kernel_rfl, ?hy41⟩) ?r41
        case hy41 =>
          intro w hSw
          try dsimp only at hSw
          go_simp
          first | (obtain ⟨y0, y1, y2, y3, y4, y5⟩ := hSw; go_simp) | skip
          try with_reducible rfl
        try simp only [Act.put, List.getElem_toArray, List.getElem_cons_succ, List.getElem_cons_zero, List.setIfInBounds_toArray, List.set_cons_zero, List.set_cons_succ]
        refine AnyBut.takeS (i := 27) (v := ?v42) rfl (by kernel_rfl) (Nat.le_of_eq (by kernel_rfl)) (by kernel_rfl) (by kernel_rfl) (fun _ _ _ h => h) (HS16.out) (Or.inl ⟨by kernel_rfl, ?hy42⟩) ?r42
        case hy42 =>
          intro w hSw
          try dsimp only at hSw
          go_simp
          first | (obtain ⟨y0, y1, y2, y3, y4, y5⟩ := hSw; go_simp) | skip
          try with_reducible rfl
        try simp only [Act.put, List.getElem_toArray, List.getElem_cons_succ, List.getElem_cons_zero, List.setIfInBounds_toArray, List.set_cons_zero, List.set_cons_succ]
        refine AnyBut.takeS (i := 28) (v := ?v43) rfl (by kernel_rfl) (Nat.le_of_eq (by kernel_rfl)) (by kernel_rfl) (by kernel_rfl) (fun _ _ _ h => h) (HS16.out) (Or.inl ⟨by kernel_rfl, ?hy43⟩) ?r43
        case hy43 =>
          intro w hSw
          try dsimp only at hSw
          go_simp
          first | (obtain ⟨y0, y1, y2, y3, y4, y5⟩ := hSw; go_simp) | skip
          try with_reducible rfl
        try simp only [Act.put, List.getElem_toArray, List.getElem_cons_succ, List.getElem_cons_zero, List.setIfInBounds_toArray, List.set_cons_zero, List.set_cons_succ]
        refine AnyBut.takeS (i := 29) (v := ?v44) rfl (by kernel_rfl) (Nat.le_of_eq (by kernel_rfl)) (by kernel_rfl) (by kernel_rfl) (fun _ _ _ h => h) (HS16.out) (Or.inl ⟨by kernel_rfl, ?hy44⟩) ?r44
        case hy44 =>
          intro w hSw
          try dsimp only at hSw
          go_simp
          first | (obtain ⟨y0, y1, y2, y3, y4, y5⟩ := hSw; go_simp) | skip
          try with_reducible rfl
        try simp only [Act.put, List.getElem_toArray, List.getElem_cons_succ, List.getElem_cons_zero, List.setIfInBounds_toArray, List.set_cons_zero, List.set_cons_succ]
        refine AnyBut.takeS (i := 30) (v := ?v45) rfl (by kernel_rfl) (Nat.le_of_eq (by kernel_rfl)) (by kernel_rfl) (by kernel_rfl) (fun _ _ _ h => h) (HS16.out) (Or.inl ⟨by kernel_rfl, ?hy45⟩) ?r45
        case hy45 =>
          intro w hSw
          try dsimp only at hSw
          go_simp
          first | (obtain ⟨y0, y1, y2, y3, y4, y5⟩ := hSw; go_simp) | skip
          try with_reducible rfl
        try simp only [Act.put, List.getElem_toArray, List.getElem_cons_succ, List.getElem_cons_zero, List.setIfInBounds_toArray, List.set_cons_zero, List.set_cons_succ]
        refine AnyBut.takeS (i := 31) (v := ?v46) rfl (by kernel_rfl) (Nat.le_of_eq (by kernel_rfl)) (by kernel_rfl) (by kernel_rfl) (fun _ _ _ h => h) (HS16.out) (Or.inl ⟨by kernel_rfl, ?hy46⟩) ?r46
        case hy46 =>
          intro w hSw
          try dsimp only at hSw
          go_simp
          first | (obtain ⟨y0, y1, y2, y3, y4, y5⟩ := hSw; go_simp) | skip
          try with_reducible rfl
        try simp only [Act.put, List.getElem_toArray, List.getElem_cons_succ, List.getElem_cons_zero, List.setIfInBounds_toArray, List.set_cons_zero, List.set_cons_succ]
        refine AnyBut.takeS (i := 32) (v := ?v47) rfl (by kernel_rfl) (Nat.le_of_eq (by kernel_rfl)) (by kernel_rfl) (by kernel_rfl) (fun _ _ _ h => h) (HS16.out) (Or.inl ⟨by kernel_rfl, ?hy47⟩) ?r47
        case hy47 =>
          intro w hSw
          try dsimp only at hSw
          go_simp
          first | (obtain ⟨y0, y1, y2, y3, y4, y5⟩ := hSw; go_simp) | skip
          try with_reducible rfl
        try simp only [Act.put, List.getElem_toArray, List.getElem_cons_succ, List.getElem_cons_zero, List.setIfInBounds_toArray, List.set_cons_zero, List.set_cons_succ]
        refine AnyBut.takeS (i := 33) (v := ?v48) rfl (by kernel_rfl) (Nat.le_of_eq (by kernel_rfl)) (by kernel_rfl) (by kernel_rfl) (fun _ _ _ h => h) (HS16.out) (Or.inl ⟨by kernel_rfl, ?hy48⟩) ?r48
        case hy48 =>
          intro w hSw
          try dsimp only at hSw
          go_simp
          first | (obtain ⟨y0, y1, y2, y3, y4, y5⟩ := hSw; go_simp) | skip
          try with_reducible rfl
        try simp only [Act.put, List.getElem_toArray, List.getElem_cons_succ, List.getElem_cons_zero, List.setIfInBounds_toArray, List.set_cons_zero, List.set_cons_succ]
        refine AnyBut.takeS (i := 34) (v := ?v49) rfl (by kernel_rfl) (Nat.le_of_eq (by kernel_rfl)) (by kernel_rfl) (by kernel_rfl) (fun _ _ _ h => h) (HS16.out) (Or.inl ⟨by kernel_rfl, ?hy49⟩) ?r49
        case hy49 =>
          intro w hSw
          try dsimp only at hSw
          go_simp
          first | (obtain ⟨y0, y1, y2, y3, y4, y5⟩ := hSw; go_simp) | skip
          try with_reducible rfl
        try simp only [Act.put, List.getElem_toArray, List.getElem_cons_succ, List.getElem_cons_zero, List.setIfInBounds_toArray, List.set_cons_zero, List.set_cons_succ]
        refine AnyBut.takeS (i := 35) (v := ?v50) rfl (by kernel_rfl) (Nat.le_of_eq (by kernel_rfl)) (by kernel_rfl) (by kernel_rfl) (fun _ _ _ h => h) (HS16.out) (Or.inl ⟨by kernel_rfl, ?hy50⟩) ?r50
        case hy50 =>
          intro w hSw
          try dsimp only at hSw
          go_simp
          first | (obtain ⟨y0, y1, y2, y3, y4, y5⟩ := hSw; go_simp) | skip
          try with_reducible rfl
        try simp only [Act.put, List.getElem_toArray, List.getElem_cons_succ, List.getElem_cons_zero, List.setIfInBounds_toArray, List.set_cons_zero, List.set_cons_succ]
        refine AnyBut.done (by kernel_rfl) ?_
        go_wp2
        go_loopg [18] fn (fun g s18 wx => ∃ k : Nat, k ≤ fn ∧ g = fn - k ∧ s18 = .int .i64 k ∧ ∃ bs, bs.length = fn ∧ (∀ x ∈ bs, x < 256) ∧ Mine wr wx 5 (.slice a4 fn c4) (byV bs))
        case atStart => exact ⟨0, Nat.zero_le _, rfl, rfl, fb, HFN.out.symm, HBY.out, HM7.out⟩
        case round =>
          obtain ⟨k, hkn, rfl, rfl, bs, hbs, hb8, hmx⟩ := hrel
          by_cases hk : k < fn
          · have hki : (k : Int) < (fn : Int) := by omega
            have wk : IntKind.i64.wrap ((k : Int) + 1) = ((k + 1 : Nat) : Int) := by rw [IntWalk.i64_in _ ⟨by omega, by omega⟩]; omega
            obtain ⟨x, hx⟩ : ∃ x, x = bs.getD k 0 := ⟨_, rfl⟩
            have hget : (byV bs)[k]? = some (.int .u8 (x : Int)) := by rw [hx]; exact byV_get (by omega)
            have hx8 : x < 256 := by
              rw [hx, List.getD_eq_getElem?_getD, List.getElem?_eq_getElem (by omega)]
              exact hb8 _ (List.getElem_mem _)
            obtain ⟨y, hy⟩ : ∃ y, y = (x + 1) % 256 := ⟨_, rfl⟩
            have wy : IntKind.u8.wrap ((x : Int) + 1) = (y : Int) := by rw [IntKind.wrap_u8]; omega
            have wy2 : ((x : Int) + 1) % 256 = (y : Int) := by omega
            obtain ⟨g4, ha4, cc, cz⟩ := hmx.cellFz hget
            subst ha4
            have hmn := hmx.setOwn (by rw [byV_length, hbs]) k (.int .u8 (y : Int))
            rw [byV_set] at hmn
            have HMN := Lib.hid hmn
            have HKN := Lib.hid hk
            have HBS := Lib.hid (And.intro (show (bs.set k y).length = fn by rw [List.length_set]; exact hbs) (show ∀ z ∈ bs.set k y, z < 256 from fun z hz => by
              rcases List.mem_or_eq_of_mem_set hz with e | e
              · exact hb8 z e
              · rw [e]; omega))
            clear hget hx hy hmn hmx hbs hb8 hkn hk
            go_wp2
            go_roundg (fn - (k + 1))
            case measure => have := HKN.out; omega
            case rel => exact ⟨k + 1, HKN.out, rfl, rfl, bs.set k y, HBS.out.1, HBS.out.2, HMN.out⟩
          · have hki : ¬ (k : Int) < (fn : Int) := by omega
            have HKX := Lib.hid (HKR.out.trans hmx.kept)
            clear hmx hbs hb8
            go_wp2
            go_roundg (n - (i + 1))
            case measure => have := HD.out; omega
            case rel => exact ⟨i + 1, HD.out, rfl, rfl, HKX.out⟩
      · have hdi : ¬ (i : Int) < (n : Int) := by omega
        go_wp2
        go_ret
        exact ⟨rfl, (HKD.out.trans HM3.out.kept).trans HKR.out⟩
end Go.Proofs.Ytdhfalcjohfdkaa
