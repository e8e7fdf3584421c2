/- Layer 12: the walk of Read (written by tools/gen_XI16.py). -/
import Derived.Test.YteflepcmblacaaaGreatDoorI16
namespace Go.Proofs.YteflepcmblacaaaGreatDoor
open Go.RowKit
attribute [local go_sem ↓] Go.wp_at_zero Go.wp_at_succ

theorem pt_end {fn : Func} {p s : Tmp} {a : Act} {P : Ending → World → Prop} {w : World} {q : Nat} {cs : Array Value} {x : Value} (hres : fn.results = #[.cell p 30, .tmp s]) (hp : a.tmps.getD p undef = .pointer (some ⟨q, 0, none⟩)) (hx : a.tmps.getD s undef = x) (hd : a.defers = [])
    (hg : w.heap[q]? = some (.cells cs 30 (0, 0))) (hz : cs.size = 17) (hP : P (.returned (.tuple #[.agg cs, x])) w) : bodyPost Tryz.prog fn P .ret a w := by
  refine bodyPost_ret (v := .tuple #[.agg cs, x]) ?_ hd hP
  have hp' : a.tmps[p]?.getD undef = .pointer (some ⟨q, 0, none⟩) := by simpa using hp
  have hx' : a.tmps[s]?.getD undef = x := by simpa using hx
  have hl := run_loadVar_row (P := Tryz.prog) w q 30 30 cs (0, 0) _ hg Tryz.underlying30 rfl (by rw [hz]; exact point_info)
  simp [results, hres, hp', hx', asAddr, hl]
/-- What Read answers. -/
def ReadTo (x : Pnt) (w : World) (e : Ending) (w' : World) : Prop :=
  ∃ a1 c1 va vc ua uc, e = .returned (.tuple #[pntV x (.slice a1 x.L.length c1) (.slice va x.h.pl.length vc) (.slice ua x.h.nl.length uc), .int .i64 0]) ∧ MineP w w' (.slice a1 x.L.length c1) (sortP x.L) ∧
    w'.ownsRow w.heap.size 23 1 (.slice va x.h.pl.length vc) x.h.pl.length (uvals x.h.pl) ∧ w'.ownsRow w.heap.size 23 1 (.slice ua x.h.nl.length uc) x.h.nl.length (uvals x.h.nl)
set_option maxRecDepth 100000 in
set_option maxHeartbeats 16000000 in
theorem pRead_any (x : Pnt) (hC : chk x = 0) (hok : x.ok) (hli : x.light) (ht : (txt x).size ≤ 400) (ao : Option Addr) (c : Nat) (w : World) (hv : SliceAt w (.slice ao (pntB x).length c) ao (pntB x).length c (u8s (pntB x))) (hby : ∀ z ∈ pntB x, 0 ≤ z ∧ z < 256) :
    Calls Tryz.prog 9 #[.slice ao (pntB x).length c] w (ReadTo x w) := by
  have hR := right_of hC
  have hkk := hR.kinds
  have htm := hR.time
  have hfl := hR.flags
  have hmi : 0 ≤ monoI x.mono ∧ monoI x.mono ≤ 1 := by unfold monoI; split <;> omega
  obtain ⟨l, hl⟩ : ∃ l, l = pntB x := ⟨_, rfl⟩
  have hll : l.length ≤ 100000000000 := by
    rw [hl]
    unfold pntB
    have h1 := numsI_len (heads x)
    have h2 := bytesV_len x hli.pl hli.nl
    have h3 := numB_len (txt x).size
    have h4 := strB_length (txt x)
    rw [List.length_append, List.length_append, List.length_append]
    have : (heads x).length = 6 := rfl
    omega
  obtain ⟨BV, hBV⟩ : ∃ b, b = bytesV x := ⟨_, rfl⟩
  obtain ⟨tt, htt⟩ : ∃ t, t = txt x := ⟨_, rfl⟩
  have HE : Hid (l = numB tt.size ++ strB tt ++ (numB x.kind ++ (numB x.temp ++ (numB (monoI x.mono) ++ (numB x.flags ++ (numB x.start ++ (numB (x.time - x.start) ++ BV))))))) := Lib.hid (by
    rw [hl, htt, hBV]
    unfold pntB numsI heads
    simp only [List.flatMap_cons, List.flatMap_nil, List.append_nil, List.append_assoc])
  have HLL := Lib.hid hll
  have HTT : Hid (tt.size ≤ 400) := Lib.hid (by rw [htt]; exact ht)
  obtain ⟨mi, hmi'⟩ : ∃ m, m = monoI x.mono := ⟨_, rfl⟩
  have HMI : Hid ((0 ≤ mi ∧ mi ≤ 1) ∧ mi = monoI x.mono) := Lib.hid ⟨by rw [hmi']; exact hmi, hmi'⟩
  rw [← hmi'] at HE
  have HRH : Hid ((0 ≤ x.kind ∧ x.kind ≤ 9007199254740992) ∧ (0 ≤ x.temp ∧ x.temp ≤ 9007199254740992) ∧ (0 ≤ mi ∧ mi ≤ 9007199254740992) ∧ (0 ≤ x.flags ∧ x.flags ≤ 9007199254740992) ∧ (0 ≤ x.start ∧ x.start ≤ 9007199254740992) ∧ (0 ≤ x.time - x.start ∧ x.time - x.start ≤ 9007199254740992) ∧ (x.start ≤ x.time ∧ x.time ≤ 9007199254740992)) := Lib.hid (by rw [hmi']; exact ⟨by omega, by omega, by omega, by omega, by omega, by omega, by omega⟩)
  have hpr : parseL tt = (x.name, sortP x.L, 0, 0) := by
    have := textT_right (name := x.name) (L := x.L) (S := tt) (by rw [htt]; unfold txt; refine Prod.ext rfl ?_; rw [textT_snd]; exact hR.lab)
    exact this.1
  have HPR := Lib.hid (fun w' => parse_any tt w' (by have := HTT.out; omega))
  rw [hpr] at HPR
  have HVA := Lib.hid (fun (W w' : World) (p : Nat) (h : RL W w' p l (bytesV x ++ [])) => rdValue_any x hR hok ByteArray.empty none 0 0 false h hll)
  rw [List.append_nil] at HVA
  have HCK := Lib.hid (fun (w' : World) (a1 va ua : Option Addr) (c1 vc uc : Nat) (h : PntAt w' { x with L := sortP x.L } a1 c1 (.slice va x.h.pl.length vc) (.slice ua x.h.nl.length uc)) => pCheck_any { x with L := sortP x.L } a1 va ua c1 vc uc w' h ⟨hok.kind, hok.temp, hok.start, hok.time, hok.whole, hok.re, hok.im, hok.h, hok.flags⟩ ⟨hli.name, by show (sortP x.L).length ≤ 20; rw [(sortP_perm x.L).length_eq]; exact hli.len, fun p hp => hli.sh p ((sortP_perm x.L).mem_iff.1 hp), hli.pl, hli.nl⟩)
  rw [chk_sort hR hC] at HCK
  obtain ⟨Q, hQ⟩ : ∃ Q, Q = ReadTo x w := ⟨_, rfl⟩
  have HQ : Hid (∀ w' a1 c1 va vc ua uc, MineP w w' (.slice a1 x.L.length c1) (sortP x.L) → w'.ownsRow w.heap.size 23 1 (.slice va x.h.pl.length vc) x.h.pl.length (uvals x.h.pl) → w'.ownsRow w.heap.size 23 1 (.slice ua x.h.nl.length uc) x.h.nl.length (uvals x.h.nl) →
      Q (.returned (.tuple #[pntV x (.slice a1 x.L.length c1) (.slice va x.h.pl.length vc) (.slice ua x.h.nl.length uc), .int .i64 0])) w') := Lib.hid (fun w' a1 c1 va vc ua uc h1 h2 h3 => by rw [hQ]; exact ⟨a1, c1, va, vc, ua, uc, rfl, h1, h2, h3⟩)
  have HSL : Hid ((sortP x.L).length = x.L.length) := Lib.hid (sortP_perm x.L).length_eq
  rw [← hQ]
  rw [← hBV] at HVA
  rw [← hl] at hv hby ⊢
  obtain ⟨w1, hw1⟩ : ∃ w1, w1 = w.alloc (.cells #[.string { data := #[] }, .slice none 0 0, .int .i64 0, .int .i64 0, .bool false, .int .i64 0, .int .i64 0, .int .i64 0, .int .u64 0, .int .u64 0, .int .i64 0, .int .u64 0, .int .i64 0, .slice none 0 0, .int .i64 0, .slice none 0 0, .int .i64 0] 30) := ⟨_, rfl⟩
  have k01 : Kept (fun _ => False) w w1 := by rw [hw1]; exact (Kept.refl _ _).alloc _
  obtain ⟨qr, hqr⟩ : ∃ q, q = w.heap.size := ⟨_, rfl⟩
  have HR1 : Hid (w1.heap[qr]? = some (.cells #[.string { data := #[] }, .slice none 0 0, .int .i64 0, .int .i64 0, .bool false, .int .i64 0, .int .i64 0, .int .i64 0, .int .u64 0, .int .u64 0, .int .i64 0, .int .u64 0, .int .i64 0, .slice none 0 0, .int .i64 0, .slice none 0 0, .int .i64 0] 30 (0, 0))) := Lib.hid (by rw [hw1, hqr]; exact heap_alloc_new w _)
  have HNR := Lib.hid (rkNew_any (.slice ao l.length c) ao c l w1 (hv.kept k01 (fun _ _ x => x)) hll hby)
  have HW1 := Lib.hid (And.intro hw1 hqr)
  have HK01 := Lib.hid k01
  obtain ⟨ln, hln⟩ : ∃ n, n = l.length := ⟨_, rfl⟩
  rw [← hln] at HNR ⊢
  clear hC hok hli ht hv hby hR hkk htm hfl hmi hl hll hBV htt hmi' hpr hQ hw1 k01 hqr hln
  unfold pntV pntC at HCK HQ
  obtain ⟨name, L, kind, temp, mono, start, time, whole, re, im, ⟨sc, ze, po, pl, no, nl⟩, flags⟩ := x
  dsimp only at HE HMI HRH HPR HVA HCK HQ HSL
  obtain ⟨al, hal⟩ : ∃ m, m = L.length := ⟨_, rfl⟩
  obtain ⟨m, hm⟩ : ∃ m, m = pl.length := ⟨_, rfl⟩
  obtain ⟨n, hn⟩ : ∃ n, n = nl.length := ⟨_, rfl⟩
  rw [← hal] at HSL HQ
  rw [← hm, ← hn] at HCK HQ HVA
  rw [HSL.out] at HCK
  clear hal hm hn
  go_enter Tryz.func9, Tryz.ntmps9
  go_upto_region 1 with fail
  rw [← HW1.out.1, ← HW1.out.2]
  go_wp2_with fail
  refine HNR.out.mono ?_
  rintro e w2 ⟨p, rfl, h2⟩
  obtain ⟨q4, hq4⟩ : ∃ q, q = w2.heap.size := ⟨_, rfl⟩
  obtain ⟨w3, hw3⟩ : ∃ w3, w3 = w2.alloc (.cells #[.pointer (some ⟨p, 0, none⟩)] 70) := ⟨_, rfl⟩
  have h3 : RL w1 w3 p l l := ⟨0, by rw [hw3]; exact h2.kept ((Kept.refl _ _).alloc _), rfl⟩
  have HB3 : Hid (w3.heap[q4]? = some (.cells #[.pointer (some ⟨p, 0, none⟩)] 70 (0, 0))) := Lib.hid (by rw [hw3, hq4]; exact heap_alloc_new w2 _)
  have HQ4 : Hid (w1.heap.size ≤ q4) := Lib.hid (by rw [hq4]; exact h2.old.size)
  have HN4 : Hid (q4 ≠ p) := Lib.hid (h3.ne HB3.out (by decide))
  have r0 := cell_rowZ 0 _ HB3.out rfl
  have HTX := Lib.hid (rdText_any tt 400 (rest := (numB kind ++ (numB temp ++ (numB mi ++ (numB flags ++ (numB start ++ (numB (time - start) ++ BV))))))) (by rw [← HE.out]; exact h3) HLL.out (by have := HTT.out; omega) (by omega))
  have HW3 := Lib.hid (And.intro hw3 hq4)
  have HNB := Lib.hid (fun (w' : World) (v : Int) (r : List Int) (h : RL w1 w' p l (numB v ++ r)) => rdNumber_any (W := w1) (w := w') (p := p) (l := l) (rest := r) v h HLL.out)
  clear h2 hw3 h3 hq4
  go_upto_region 2 with fail
  rw [← HW3.out.1, ← HW3.out.2]
  go_wp2_with fail
  refine HTX.out.mono ?_
  rintro e wA ⟨rfl, hA, kA⟩
  have hne : q4 ≠ p := HN4.out
  have HA0 : Hid ((RL w1 wA p l (numB kind ++ (numB temp ++ (numB mi ++ (numB flags ++ (numB start ++ (numB (time - start) ++ BV)))))) ∧ wA.heap[q4]? = some (.cells #[.pointer (some ⟨p, 0, none⟩)] 70 (0, 0))) ∧ True) := Lib.hid ⟨⟨hA, kA.same HB3.out hne⟩, trivial⟩
  have HA : Hid ((RL w1 wA.drew p l (numB kind ++ (numB temp ++ (numB mi ++ (numB flags ++ (numB start ++ (numB (time - start) ++ BV)))))) ∧ wA.drew.heap[q4]? = some (.cells #[.pointer (some ⟨p, 0, none⟩)] 70 (0, 0))) ∧ True) := Lib.hid ⟨⟨HA0.out.1.1.kept ((Kept.refl _ _).drew), HA0.out.1.2⟩, trivial⟩
  clear hA kA hne r0
  go_upto_region 3 with fail
  go_cut [6] from 20 (fun s6 wx => ∃ q6, s6 = .pointer (some ⟨q6, 0, none⟩) ∧ PBx4 w1 wx p q4 q6 #[.string { data := #[] }, .slice none 0 0, .int .i64 kind, .int .i64 temp, .bool false, .int .i64 0, .int .i64 0, .int .i64 0, .int .u64 0, .int .u64 0, .int .i64 0, .int .u64 0, .int .i64 0, .slice none 0 0, .int .i64 0, .slice none 0 0, .int .i64 0] l (numB mi ++ (numB flags ++ (numB start ++ (numB (time - start) ++ BV)))))
  case first =>
    refine AnyBut.start (S := fun w' => w'.cell? ⟨q4, 0, none⟩ = some (.pointer (some ⟨p, 0, none⟩))) (k := 7) (by kernel_rfl) ?_
    obtain ⟨wD, hwd⟩ : ∃ w', w' = wA.drew := ⟨_, rfl⟩
    rw [← hwd]
    have HAD : Hid ((RL w1 wD p l (numB kind ++ (numB temp ++ (numB mi ++ (numB flags ++ (numB start ++ (numB (time - start) ++ BV)))))) ∧ wD.heap[q4]? = some (.cells #[.pointer (some ⟨p, 0, none⟩)] 70 (0, 0))) ∧ True) := Lib.hid (by rw [hwd]; exact HA.out)
    clear hwd
    refine AnyBut.takeS (i := 0) (v := ?v1) rfl (by kernel_rfl) (Nat.le_of_eq (by kernel_rfl)) (by kernel_rfl) (by kernel_rfl) (fun _ _ _ h => h) (cell_rowZ 0 _ HAD.out.1.2 rfl) (Or.inl ⟨by kernel_rfl, ?hy1⟩) ?r1
    case hy1 =>
      intro w hSw
      try dsimp only at hSw
      go_simp
      first | (obtain y0 := hSw; go_simp) | skip
      try with_reducible rfl
    try simp only [Act.put, List.getElem_toArray, List.getElem_cons_zero, List.setIfInBounds_toArray, List.set_cons_zero, List.set_cons_succ]
    refine AnyBut.takeS (i := 2) (v := ?v2) rfl (by kernel_rfl) (Nat.le_of_eq (by kernel_rfl)) (by kernel_rfl) (by kernel_rfl) (fun _ _ _ h => h) (cell_rowZ 0 _ HAD.out.1.2 rfl) (Or.inl ⟨by kernel_rfl, ?hy2⟩) ?r2
    case hy2 =>
      intro w hSw
      try dsimp only at hSw
      go_simp
      first | (obtain y0 := hSw; go_simp) | skip
      try with_reducible rfl
    try simp only [Act.put, List.getElem_toArray, List.getElem_cons_succ, List.getElem_cons_zero, List.setIfInBounds_toArray, List.set_cons_zero, List.set_cons_succ]
    refine AnyBut.two (i := 1) (j := 5) (by kernel_rfl) rfl rfl (fun K hK => ?_) (fun K hK => ?_)
    · go_simp
      go_wp2_with fail
      refine (HNB.out _ kind (numB temp ++ (numB mi ++ (numB flags ++ (numB start ++ (numB (time - start) ++ BV))))) HAD.out.1.1 HRH.out.1.1 HRH.out.1.2).mono ?_
      rintro e wx1 ⟨rfl, hr1, kk1⟩
      have HA1 := Lib.hid (And.intro (And.intro hr1 (kk1.same HAD.out.1.2 (HAD.out.1.1.ne HAD.out.1.2 (by decide)))) True.intro)
      clear hr1 kk1
      go_wp2
      refine hK.out _ _ (cell_rowZ 0 _ HA1.out.1.2 rfl) ?_
      clear hK K
      try simp only [Act.put, List.getElem_toArray, List.getElem_cons_succ, List.getElem_cons_zero, List.setIfInBounds_toArray, List.set_cons_zero, List.set_cons_succ]
      refine AnyBut.two (i := 3) (j := 5) (by kernel_rfl) rfl rfl (fun K hK => ?_) (fun K hK => ?_)
      · go_simp
        go_wp2_with fail
        refine (HNB.out _ temp (numB mi ++ (numB flags ++ (numB start ++ (numB (time - start) ++ BV)))) HA1.out.1.1 HRH.out.2.1.1 HRH.out.2.1.2).mono ?_
        rintro e wx1_3 ⟨rfl, hr3, kk3⟩
        have HA3 := Lib.hid (And.intro (And.intro hr3 (kk3.same HA1.out.1.2 (HA1.out.1.1.ne HA1.out.1.2 (by decide)))) True.intro)
        clear hr3 kk3
        go_wp2
        refine hK.out _ _ (cell_rowZ 0 _ HA3.out.1.2 rfl) ?_
        clear hK K
        try simp only [Act.put, List.getElem_toArray, List.getElem_cons_succ, List.getElem_cons_zero, List.setIfInBounds_toArray, List.set_cons_zero, List.set_cons_succ]
        refine AnyBut.takeS (i := 4) (v := ?v3) rfl (by kernel_rfl) (Nat.le_of_eq (by kernel_rfl)) (by kernel_rfl) (by kernel_rfl) (fun _ _ _ h => h) (cell_rowZ 0 _ HA3.out.1.2 rfl) (Or.inl ⟨by kernel_rfl, ?hy3⟩) ?r3
        case hy3 =>
          intro w hSw
          try dsimp only at hSw
          go_simp
          first | (obtain y0 := hSw; go_simp) | skip
          try with_reducible rfl
        try simp only [Act.put, List.getElem_toArray, List.getElem_cons_succ, List.getElem_cons_zero, List.setIfInBounds_toArray, List.set_cons_zero, List.set_cons_succ]
        refine AnyBut.one (i := 5) (by kernel_rfl) rfl (fun K hK => ?_)
        go_simp
        obtain ⟨q6, hq6⟩ : ∃ q6, q6 = wx1_3.heap.size := ⟨_, rfl⟩
        have HA5 : Hid ((RL w1 (wx1_3.alloc (.cells #[.string { data := #[] }, .slice none 0 0, .int .i64 0, .int .i64 0, .bool false, .int .i64 0, .int .i64 0, .int .i64 0, .int .u64 0, .int .u64 0, .int .i64 0, .int .u64 0, .int .i64 0, .slice none 0 0, .int .i64 0, .slice none 0 0, .int .i64 0] 30)) p l (numB mi ++ (numB flags ++ (numB start ++ (numB (time - start) ++ BV)))) ∧ (wx1_3.alloc (.cells #[.string { data := #[] }, .slice none 0 0, .int .i64 0, .int .i64 0, .bool false, .int .i64 0, .int .i64 0, .int .i64 0, .int .u64 0, .int .u64 0, .int .i64 0, .int .u64 0, .int .i64 0, .slice none 0 0, .int .i64 0, .slice none 0 0, .int .i64 0] 30)).heap[q4]? = some (.cells #[.pointer (some ⟨p, 0, none⟩)] 70 (0, 0))) ∧ (wx1_3.alloc (.cells #[.string { data := #[] }, .slice none 0 0, .int .i64 0, .int .i64 0, .bool false, .int .i64 0, .int .i64 0, .int .i64 0, .int .u64 0, .int .u64 0, .int .i64 0, .int .u64 0, .int .i64 0, .slice none 0 0, .int .i64 0, .slice none 0 0, .int .i64 0] 30)).heap[q6]? = some (.cells #[.string { data := #[] }, .slice none 0 0, .int .i64 0, .int .i64 0, .bool false, .int .i64 0, .int .i64 0, .int .i64 0, .int .u64 0, .int .u64 0, .int .i64 0, .int .u64 0, .int .i64 0, .slice none 0 0, .int .i64 0, .slice none 0 0, .int .i64 0] 30 (0, 0))) := Lib.hid ⟨⟨HA3.out.1.1.kept ((Kept.refl _ _).alloc _), ((Kept.refl (fun _ => False) _).alloc _).same HA3.out.1.2 (fun x => x)⟩, by rw [hq6]; exact heap_alloc_new _ _⟩
        have HQ6 : Hid (q4 ≠ q6 ∧ w1.heap.size ≤ q6) := Lib.hid (by have h1 := (Array.getElem?_eq_some_iff.1 HA3.out.1.2).1; have h2 := HA3.out.1.1.old.size; omega)
        obtain ⟨wz, hwz⟩ : ∃ wz, wz = wx1_3.alloc (.cells #[.string { data := #[] }, .slice none 0 0, .int .i64 0, .int .i64 0, .bool false, .int .i64 0, .int .i64 0, .int .i64 0, .int .u64 0, .int .u64 0, .int .i64 0, .int .u64 0, .int .i64 0, .slice none 0 0, .int .i64 0, .slice none 0 0, .int .i64 0] 30) := ⟨_, rfl⟩
        rw [← hq6, ← hwz]
        rw [← hwz] at HA5
        clear hwz hq6
        refine hK.out _ _ (cell_rowZ 0 _ HA5.out.1.2 rfl) ?_
        clear hK K
        try simp only [Act.put, List.getElem_toArray, List.getElem_cons_succ, List.getElem_cons_zero, List.setIfInBounds_toArray, List.set_cons_zero, List.set_cons_succ]
        refine AnyBut.one (i := 6) (by kernel_rfl) rfl (fun K hK => ?_)
        refine step_store_row (by rfl) 30 (.tmp 6) (.tmp 24) (by rfl) q6 #[.string { data := #[] }, .slice none 0 0, .int .i64 kind, .int .i64 temp, .bool false, .int .i64 0, .int .i64 0, .int .i64 0, .int .u64 0, .int .u64 0, .int .i64 0, .int .u64 0, .int .i64 0, .slice none 0 0, .int .i64 0, .slice none 0 0, .int .i64 0] (by rfl) (by rfl) 30 _ HA5.out.2 point_info rfl (ptAll _ _ _ _ _ _ _ _ _ _ _ _ _ _ _ _ _ _ _ _ _ _ _) ?_
        have HPB : Hid (PBx4 w1 (World.setRow _ q6 #[.string { data := #[] }, .slice none 0 0, .int .i64 kind, .int .i64 temp, .bool false, .int .i64 0, .int .i64 0, .int .i64 0, .int .u64 0, .int .u64 0, .int .i64 0, .int .u64 0, .int .i64 0, .slice none 0 0, .int .i64 0, .slice none 0 0, .int .i64 0]) p q4 q6 #[.string { data := #[] }, .slice none 0 0, .int .i64 kind, .int .i64 temp, .bool false, .int .i64 0, .int .i64 0, .int .i64 0, .int .u64 0, .int .u64 0, .int .i64 0, .int .u64 0, .int .i64 0, .slice none 0 0, .int .i64 0, .slice none 0 0, .int .i64 0] l (numB mi ++ (numB flags ++ (numB start ++ (numB (time - start) ++ BV))))) := Lib.hid (PBx4.ofRow HA5.out.1.1 HA5.out.1.2 HA5.out.2 HQ6.out HQ4.out _)
        refine hK.out _ _ (cell_rowZ 0 _ HPB.out.rb rfl) ?_
        clear hK K
        try simp only [Act.put, List.getElem_toArray, List.getElem_cons_succ, List.getElem_cons_zero]
        refine AnyBut.done (by kernel_rfl) ?_
        go_wp2
        go_meet
        exact ⟨_, rfl, HPB.out⟩
      · go_simp
        obtain ⟨q6, hq6⟩ : ∃ q6, q6 = wx1.heap.size := ⟨_, rfl⟩
        have HA5 : Hid ((RL w1 (wx1.alloc (.cells #[.string { data := #[] }, .slice none 0 0, .int .i64 0, .int .i64 0, .bool false, .int .i64 0, .int .i64 0, .int .i64 0, .int .u64 0, .int .u64 0, .int .i64 0, .int .u64 0, .int .i64 0, .slice none 0 0, .int .i64 0, .slice none 0 0, .int .i64 0] 30)) p l (numB temp ++ (numB mi ++ (numB flags ++ (numB start ++ (numB (time - start) ++ BV))))) ∧ (wx1.alloc (.cells #[.string { data := #[] }, .slice none 0 0, .int .i64 0, .int .i64 0, .bool false, .int .i64 0, .int .i64 0, .int .i64 0, .int .u64 0, .int .u64 0, .int .i64 0, .int .u64 0, .int .i64 0, .slice none 0 0, .int .i64 0, .slice none 0 0, .int .i64 0] 30)).heap[q4]? = some (.cells #[.pointer (some ⟨p, 0, none⟩)] 70 (0, 0))) ∧ (wx1.alloc (.cells #[.string { data := #[] }, .slice none 0 0, .int .i64 0, .int .i64 0, .bool false, .int .i64 0, .int .i64 0, .int .i64 0, .int .u64 0, .int .u64 0, .int .i64 0, .int .u64 0, .int .i64 0, .slice none 0 0, .int .i64 0, .slice none 0 0, .int .i64 0] 30)).heap[q6]? = some (.cells #[.string { data := #[] }, .slice none 0 0, .int .i64 0, .int .i64 0, .bool false, .int .i64 0, .int .i64 0, .int .i64 0, .int .u64 0, .int .u64 0, .int .i64 0, .int .u64 0, .int .i64 0, .slice none 0 0, .int .i64 0, .slice none 0 0, .int .i64 0] 30 (0, 0))) := Lib.hid ⟨⟨HA1.out.1.1.kept ((Kept.refl _ _).alloc _), ((Kept.refl (fun _ => False) _).alloc _).same HA1.out.1.2 (fun x => x)⟩, by rw [hq6]; exact heap_alloc_new _ _⟩
        have HQ6 : Hid (q4 ≠ q6 ∧ w1.heap.size ≤ q6) := Lib.hid (by have h1 := (Array.getElem?_eq_some_iff.1 HA1.out.1.2).1; have h2 := HA1.out.1.1.old.size; omega)
        obtain ⟨wz, hwz⟩ : ∃ wz, wz = wx1.alloc (.cells #[.string { data := #[] }, .slice none 0 0, .int .i64 0, .int .i64 0, .bool false, .int .i64 0, .int .i64 0, .int .i64 0, .int .u64 0, .int .u64 0, .int .i64 0, .int .u64 0, .int .i64 0, .slice none 0 0, .int .i64 0, .slice none 0 0, .int .i64 0] 30) := ⟨_, rfl⟩
        rw [← hq6, ← hwz]
        rw [← hwz] at HA5
        clear hwz hq6
        refine hK.out _ _ (cell_rowZ 0 _ HA5.out.1.2 rfl) ?_
        clear hK K
        try simp only [Act.put, List.getElem_toArray, List.getElem_cons_succ, List.getElem_cons_zero, List.setIfInBounds_toArray, List.set_cons_zero, List.set_cons_succ]
        refine AnyBut.one (i := 3) (by kernel_rfl) rfl (fun K hK => ?_)
        go_simp
        go_wp2_with fail
        refine (HNB.out _ temp (numB mi ++ (numB flags ++ (numB start ++ (numB (time - start) ++ BV)))) HA5.out.1.1 HRH.out.2.1.1 HRH.out.2.1.2).mono ?_
        rintro e wx1_5_3 ⟨rfl, hr3, kk3⟩
        have HA3 := Lib.hid (And.intro (And.intro hr3 (kk3.same HA5.out.1.2 (HA5.out.1.1.ne HA5.out.1.2 (by decide)))) (kk3.same HA5.out.2 (HA5.out.1.1.ne HA5.out.2 (by decide))))
        clear hr3 kk3
        go_wp2
        refine hK.out _ _ (cell_rowZ 0 _ HA3.out.1.2 rfl) ?_
        clear hK K
        try simp only [Act.put, List.getElem_toArray, List.getElem_cons_succ, List.getElem_cons_zero, List.setIfInBounds_toArray, List.set_cons_zero, List.set_cons_succ]
        refine AnyBut.takeS (i := 4) (v := ?v4) rfl (by kernel_rfl) (Nat.le_of_eq (by kernel_rfl)) (by kernel_rfl) (by kernel_rfl) (fun _ _ _ h => h) (cell_rowZ 0 _ HA3.out.1.2 rfl) (Or.inl ⟨by kernel_rfl, ?hy4⟩) ?r4
        case hy4 =>
          intro w hSw
          try dsimp only at hSw
          go_simp
          first | (obtain y0 := hSw; go_simp) | skip
          try with_reducible rfl
        try simp only [Act.put, List.getElem_toArray, List.getElem_cons_succ, List.getElem_cons_zero, List.setIfInBounds_toArray, List.set_cons_zero, List.set_cons_succ]
        refine AnyBut.one (i := 6) (by kernel_rfl) rfl (fun K hK => ?_)
        refine step_store_row (by rfl) 30 (.tmp 6) (.tmp 24) (by rfl) q6 #[.string { data := #[] }, .slice none 0 0, .int .i64 kind, .int .i64 temp, .bool false, .int .i64 0, .int .i64 0, .int .i64 0, .int .u64 0, .int .u64 0, .int .i64 0, .int .u64 0, .int .i64 0, .slice none 0 0, .int .i64 0, .slice none 0 0, .int .i64 0] (by rfl) (by rfl) 30 _ HA3.out.2 point_info rfl (ptAll _ _ _ _ _ _ _ _ _ _ _ _ _ _ _ _ _ _ _ _ _ _ _) ?_
        have HPB : Hid (PBx4 w1 (World.setRow _ q6 #[.string { data := #[] }, .slice none 0 0, .int .i64 kind, .int .i64 temp, .bool false, .int .i64 0, .int .i64 0, .int .i64 0, .int .u64 0, .int .u64 0, .int .i64 0, .int .u64 0, .int .i64 0, .slice none 0 0, .int .i64 0, .slice none 0 0, .int .i64 0]) p q4 q6 #[.string { data := #[] }, .slice none 0 0, .int .i64 kind, .int .i64 temp, .bool false, .int .i64 0, .int .i64 0, .int .i64 0, .int .u64 0, .int .u64 0, .int .i64 0, .int .u64 0, .int .i64 0, .slice none 0 0, .int .i64 0, .slice none 0 0, .int .i64 0] l (numB mi ++ (numB flags ++ (numB start ++ (numB (time - start) ++ BV))))) := Lib.hid (PBx4.ofRow HA3.out.1.1 HA3.out.1.2 HA3.out.2 HQ6.out HQ4.out _)
        refine hK.out _ _ (cell_rowZ 0 _ HPB.out.rb rfl) ?_
        clear hK K
        try simp only [Act.put, List.getElem_toArray, List.getElem_cons_succ, List.getElem_cons_zero]
        refine AnyBut.done (by kernel_rfl) ?_
        go_wp2
        go_meet
        exact ⟨_, rfl, HPB.out⟩
    · go_simp
      obtain ⟨q6, hq6⟩ : ∃ q6, q6 = wD.heap.size := ⟨_, rfl⟩
      have HA5 : Hid ((RL w1 (wD.alloc (.cells #[.string { data := #[] }, .slice none 0 0, .int .i64 0, .int .i64 0, .bool false, .int .i64 0, .int .i64 0, .int .i64 0, .int .u64 0, .int .u64 0, .int .i64 0, .int .u64 0, .int .i64 0, .slice none 0 0, .int .i64 0, .slice none 0 0, .int .i64 0] 30)) p l (numB kind ++ (numB temp ++ (numB mi ++ (numB flags ++ (numB start ++ (numB (time - start) ++ BV)))))) ∧ (wD.alloc (.cells #[.string { data := #[] }, .slice none 0 0, .int .i64 0, .int .i64 0, .bool false, .int .i64 0, .int .i64 0, .int .i64 0, .int .u64 0, .int .u64 0, .int .i64 0, .int .u64 0, .int .i64 0, .slice none 0 0, .int .i64 0, .slice none 0 0, .int .i64 0] 30)).heap[q4]? = some (.cells #[.pointer (some ⟨p, 0, none⟩)] 70 (0, 0))) ∧ (wD.alloc (.cells #[.string { data := #[] }, .slice none 0 0, .int .i64 0, .int .i64 0, .bool false, .int .i64 0, .int .i64 0, .int .i64 0, .int .u64 0, .int .u64 0, .int .i64 0, .int .u64 0, .int .i64 0, .slice none 0 0, .int .i64 0, .slice none 0 0, .int .i64 0] 30)).heap[q6]? = some (.cells #[.string { data := #[] }, .slice none 0 0, .int .i64 0, .int .i64 0, .bool false, .int .i64 0, .int .i64 0, .int .i64 0, .int .u64 0, .int .u64 0, .int .i64 0, .int .u64 0, .int .i64 0, .slice none 0 0, .int .i64 0, .slice none 0 0, .int .i64 0] 30 (0, 0))) := Lib.hid ⟨⟨HAD.out.1.1.kept ((Kept.refl _ _).alloc _), ((Kept.refl (fun _ => False) _).alloc _).same HAD.out.1.2 (fun x => x)⟩, by rw [hq6]; exact heap_alloc_new _ _⟩
      have HQ6 : Hid (q4 ≠ q6 ∧ w1.heap.size ≤ q6) := Lib.hid (by have h1 := (Array.getElem?_eq_some_iff.1 HAD.out.1.2).1; have h2 := HAD.out.1.1.old.size; omega)
      obtain ⟨wz, hwz⟩ : ∃ wz, wz = wD.alloc (.cells #[.string { data := #[] }, .slice none 0 0, .int .i64 0, .int .i64 0, .bool false, .int .i64 0, .int .i64 0, .int .i64 0, .int .u64 0, .int .u64 0, .int .i64 0, .int .u64 0, .int .i64 0, .slice none 0 0, .int .i64 0, .slice none 0 0, .int .i64 0] 30) := ⟨_, rfl⟩
      rw [← hq6, ← hwz]
      rw [← hwz] at HA5
      clear hwz hq6
      refine hK.out _ _ (cell_rowZ 0 _ HA5.out.1.2 rfl) ?_
      clear hK K
      try simp only [Act.put, List.getElem_toArray, List.getElem_cons_succ, List.getElem_cons_zero, List.setIfInBounds_toArray, List.set_cons_zero, List.set_cons_succ]
      refine AnyBut.one (i := 1) (by kernel_rfl) rfl (fun K hK => ?_)
      go_simp
      go_wp2_with fail
      refine (HNB.out _ kind (numB temp ++ (numB mi ++ (numB flags ++ (numB start ++ (numB (time - start) ++ BV))))) HA5.out.1.1 HRH.out.1.1 HRH.out.1.2).mono ?_
      rintro e wx5_1 ⟨rfl, hr1, kk1⟩
      have HA1 := Lib.hid (And.intro (And.intro hr1 (kk1.same HA5.out.1.2 (HA5.out.1.1.ne HA5.out.1.2 (by decide)))) (kk1.same HA5.out.2 (HA5.out.1.1.ne HA5.out.2 (by decide))))
      clear hr1 kk1
      go_wp2
      refine hK.out _ _ (cell_rowZ 0 _ HA1.out.1.2 rfl) ?_
      clear hK K
      try simp only [Act.put, List.getElem_toArray, List.getElem_cons_succ, List.getElem_cons_zero, List.setIfInBounds_toArray, List.set_cons_zero, List.set_cons_succ]
      refine AnyBut.one (i := 3) (by kernel_rfl) rfl (fun K hK => ?_)
      go_simp
      go_wp2_with fail
      refine (HNB.out _ temp (numB mi ++ (numB flags ++ (numB start ++ (numB (time - start) ++ BV)))) HA1.out.1.1 HRH.out.2.1.1 HRH.out.2.1.2).mono ?_
      rintro e wx5_1_3 ⟨rfl, hr3, kk3⟩
      have HA3 := Lib.hid (And.intro (And.intro hr3 (kk3.same HA1.out.1.2 (HA1.out.1.1.ne HA1.out.1.2 (by decide)))) (kk3.same HA1.out.2 (HA1.out.1.1.ne HA1.out.2 (by decide))))
      clear hr3 kk3
      go_wp2
      refine hK.out _ _ (cell_rowZ 0 _ HA3.out.1.2 rfl) ?_
      clear hK K
      try simp only [Act.put, List.getElem_toArray, List.getElem_cons_succ, List.getElem_cons_zero, List.setIfInBounds_toArray, List.set_cons_zero, List.set_cons_succ]
      refine AnyBut.takeS (i := 4) (v := ?v5) rfl (by kernel_rfl) (Nat.le_of_eq (by kernel_rfl)) (by kernel_rfl) (by kernel_rfl) (fun _ _ _ h => h) (cell_rowZ 0 _ HA3.out.1.2 rfl) (Or.inl ⟨by kernel_rfl, ?hy5⟩) ?r5
      case hy5 =>
        intro w hSw
        try dsimp only at hSw
        go_simp
        first | (obtain y0 := hSw; go_simp) | skip
        try with_reducible rfl
      try simp only [Act.put, List.getElem_toArray, List.getElem_cons_succ, List.getElem_cons_zero, List.setIfInBounds_toArray, List.set_cons_zero, List.set_cons_succ]
      refine AnyBut.one (i := 6) (by kernel_rfl) rfl (fun K hK => ?_)
      refine step_store_row (by rfl) 30 (.tmp 6) (.tmp 24) (by rfl) q6 #[.string { data := #[] }, .slice none 0 0, .int .i64 kind, .int .i64 temp, .bool false, .int .i64 0, .int .i64 0, .int .i64 0, .int .u64 0, .int .u64 0, .int .i64 0, .int .u64 0, .int .i64 0, .slice none 0 0, .int .i64 0, .slice none 0 0, .int .i64 0] (by rfl) (by rfl) 30 _ HA3.out.2 point_info rfl (ptAll _ _ _ _ _ _ _ _ _ _ _ _ _ _ _ _ _ _ _ _ _ _ _) ?_
      have HPB : Hid (PBx4 w1 (World.setRow _ q6 #[.string { data := #[] }, .slice none 0 0, .int .i64 kind, .int .i64 temp, .bool false, .int .i64 0, .int .i64 0, .int .i64 0, .int .u64 0, .int .u64 0, .int .i64 0, .int .u64 0, .int .i64 0, .slice none 0 0, .int .i64 0, .slice none 0 0, .int .i64 0]) p q4 q6 #[.string { data := #[] }, .slice none 0 0, .int .i64 kind, .int .i64 temp, .bool false, .int .i64 0, .int .i64 0, .int .i64 0, .int .u64 0, .int .u64 0, .int .i64 0, .int .u64 0, .int .i64 0, .slice none 0 0, .int .i64 0, .slice none 0 0, .int .i64 0] l (numB mi ++ (numB flags ++ (numB start ++ (numB (time - start) ++ BV))))) := Lib.hid (PBx4.ofRow HA3.out.1.1 HA3.out.1.2 HA3.out.2 HQ6.out HQ4.out _)
      refine hK.out _ _ (cell_rowZ 0 _ HPB.out.rb rfl) ?_
      clear hK K
      try simp only [Act.put, List.getElem_toArray, List.getElem_cons_succ, List.getElem_cons_zero]
      refine AnyBut.done (by kernel_rfl) ?_
      go_wp2
      go_meet
      exact ⟨_, rfl, HPB.out⟩
  case rest =>
    obtain ⟨q6, rfl, hpb⟩ := hcut
    have HP := Lib.hid hpb
    have r0 := cell_rowZ 0 _ hpb.rb rfl
    clear hpb
    go_wp2_with fail
    refine (HNB.out _ mi (numB flags ++ (numB start ++ (numB (time - start) ++ BV))) HP.out.rd HRH.out.2.2.1.1 HRH.out.2.2.1.2).mono ?_
    rintro e w5 ⟨rfl, h5, k5⟩
    have HP5 := Lib.hid (HP.out.read k5 h5)
    clear h5 k5 r0
    have r0 := cell_rowZ 0 _ HP5.out.rb rfl
    go_wp2_with fail
    refine (HNB.out w5 flags (numB start ++ (numB (time - start) ++ BV)) HP5.out.rd HRH.out.2.2.2.1.1 HRH.out.2.2.2.1.2).mono ?_
    rintro e w6 ⟨rfl, h6, k6⟩
    have hp6 := HP5.out.read k6 h6
    have c16 := cell_rowZ 16 _ hp6.pb rfl
    have f16 := free_of_rowZ 16 hp6.pb
    have HP6 : Hid (PBx4 w1 (w6.setCell ⟨q6, 16, none⟩ (.int .i64 flags)) p q4 q6 #[.string { data := #[] }, .slice none 0 0, .int .i64 kind, .int .i64 temp, .bool false, .int .i64 0, .int .i64 0, .int .i64 0, .int .u64 0, .int .u64 0, .int .i64 0, .int .u64 0, .int .i64 0, .slice none 0 0, .int .i64 0, .slice none 0 0, .int .i64 flags] l (numB start ++ (numB (time - start) ++ BV))) := Lib.hid (hp6.set 16 (.int .i64 flags))
    clear h6 k6 r0 hp6
    go_upto_region 6 with fail
    obtain ⟨w7, hw7⟩ : ∃ w7, w7 = w6.setCell ⟨q6, 16, none⟩ (.int .i64 flags) := ⟨_, rfl⟩
    rw [← hw7] at HP6 ⊢
    clear hw7 c16 f16
    have r0 := cell_rowZ 0 _ HP6.out.rb rfl
    go_wp2_with fail
    refine (HNB.out w7 start (numB (time - start) ++ BV) HP6.out.rd HRH.out.2.2.2.2.1.1 HRH.out.2.2.2.2.1.2).mono ?_
    rintro e w8 ⟨rfl, h8, k8⟩
    have hp8 := HP6.out.read k8 h8
    have c5 := cell_rowZ 5 _ hp8.pb rfl
    have f5 := free_of_rowZ 5 hp8.pb
    have HP8 : Hid (PBx4 w1 (w8.setCell ⟨q6, 5, none⟩ (.int .i64 start)) p q4 q6 #[.string { data := #[] }, .slice none 0 0, .int .i64 kind, .int .i64 temp, .bool false, .int .i64 start, .int .i64 0, .int .i64 0, .int .u64 0, .int .u64 0, .int .i64 0, .int .u64 0, .int .i64 0, .slice none 0 0, .int .i64 0, .slice none 0 0, .int .i64 flags] l (numB (time - start) ++ BV)) := Lib.hid (hp8.set 5 (.int .i64 start))
    clear h8 k8 r0 hp8
    go_upto_region 7 with fail
    obtain ⟨w9, hw9⟩ : ∃ w9, w9 = w8.setCell ⟨q6, 5, none⟩ (.int .i64 start) := ⟨_, rfl⟩
    rw [← hw9] at HP8 ⊢
    clear hw9 c5 f5
    have HP9 := Lib.hid (HP8.out.on (Kept.refl _ w9).drew)
    have wadd : IntKind.i64.wrap (start + (time - start)) = time := by have := HRH.out; rw [IntWalk.i64_in _ ⟨by omega, by omega⟩]; omega
    have HS9 : Hid ((fun w' => w'.cell? ⟨q4, 0, none⟩ = some (.pointer (some ⟨p, 0, none⟩)) ∧ w'.cell? ⟨q6, 5, none⟩ = some (.int .i64 start)) w9.drew) := Lib.hid ⟨cell_rowZ 0 _ HP9.out.rb rfl, cell_rowZ 5 _ HP9.out.pb rfl⟩
    refine AnyBut.start (S := fun w' => w'.cell? ⟨q4, 0, none⟩ = some (.pointer (some ⟨p, 0, none⟩)) ∧ w'.cell? ⟨q6, 5, none⟩ = some (.int .i64 start)) (k := 6) (by kernel_rfl) ?_
    refine AnyBut.take (i := 0) (v := ?v6) rfl (by kernel_rfl) (by kernel_rfl) (by kernel_rfl) (by kernel_rfl) (fun _ _ _ h => h) (HS9.out) (Or.inl ⟨by kernel_rfl, ?hy6⟩) ?r6
    case hy6 =>
      intro w hSw
      try dsimp only at hSw
      go_simp
      first | (obtain ⟨y0, y1⟩ := hSw; go_simp) | skip
      try with_reducible rfl
    try simp only [Act.put, List.getElem_toArray, List.getElem_cons_zero, List.setIfInBounds_toArray, List.set_cons_zero, List.set_cons_succ]
    refine AnyBut.take (i := 1) (v := ?v7) rfl (by kernel_rfl) (by kernel_rfl) (by kernel_rfl) (by kernel_rfl) (fun _ _ _ h => h) (HS9.out) (Or.inl ⟨by kernel_rfl, ?hy7⟩) ?r7
    case hy7 =>
      intro w hSw
      try dsimp only at hSw
      go_simp
      first | (obtain ⟨y0, y1⟩ := hSw; go_simp) | skip
      try with_reducible rfl
    try simp only [Act.put, List.getElem_toArray, List.getElem_cons_succ, List.getElem_cons_zero, List.setIfInBounds_toArray, List.set_cons_zero, List.set_cons_succ]
    refine AnyBut.take (i := 2) (v := ?v8) rfl (by kernel_rfl) (by kernel_rfl) (by kernel_rfl) (by kernel_rfl) (fun _ _ _ h => h) (HS9.out) (Or.inl ⟨by kernel_rfl, ?hy8⟩) ?r8
    case hy8 =>
      intro w hSw
      try dsimp only at hSw
      go_simp
      first | (obtain ⟨y0, y1⟩ := hSw; go_simp) | skip
      try with_reducible rfl
    try simp only [Act.put, List.getElem_toArray, List.getElem_cons_succ, List.getElem_cons_zero, List.setIfInBounds_toArray, List.set_cons_zero, List.set_cons_succ]
    refine AnyBut.one (i := 3) (by kernel_rfl) rfl (fun K hK => ?_)
    go_simp
    go_wp2_with fail
    refine (HNB.out _ (time - start) BV HP9.out.rd HRH.out.2.2.2.2.2.1.1 HRH.out.2.2.2.2.2.1.2).mono ?_
    rintro e w10 ⟨rfl, h10, k10⟩
    have HP10 := Lib.hid (HP9.out.read k10 h10)
    have c6 := cell_rowZ 6 _ HP10.out.pb rfl
    have f6 := free_of_rowZ 6 HP10.out.pb
    clear h10 k10
    go_wp2
    refine hK.out _ _ (⟨cell_rowZ 0 _ HP10.out.rb rfl, cell_rowZ 5 _ HP10.out.pb rfl⟩) ?_
    clear hK K
    try simp only [Act.put, List.getElem_toArray, List.getElem_cons_succ, List.getElem_cons_zero, List.setIfInBounds_toArray, List.set_cons_zero, List.set_cons_succ]
    refine AnyBut.take (i := 4) (v := ?v9) rfl (by kernel_rfl) (by kernel_rfl) (by kernel_rfl) (by kernel_rfl) (fun _ _ _ h => h) (⟨cell_rowZ 0 _ HP10.out.rb rfl, cell_rowZ 5 _ HP10.out.pb rfl⟩) (Or.inl ⟨by kernel_rfl, ?hy9⟩) ?r9
    case hy9 =>
      intro w hSw
      try dsimp only at hSw
      go_simp
      first | (obtain ⟨y0, y1⟩ := hSw; go_simp) | skip
      try with_reducible rfl
    try simp only [Act.put, List.getElem_toArray, List.getElem_cons_succ, List.getElem_cons_zero, List.setIfInBounds_toArray, List.set_cons_zero, List.set_cons_succ]
    refine AnyBut.take (i := 5) (v := ?v10) rfl (by kernel_rfl) (by kernel_rfl) (by kernel_rfl) (by kernel_rfl) (fun _ _ _ h => h) (⟨cell_rowZ 0 _ HP10.out.rb rfl, cell_rowZ 5 _ HP10.out.pb rfl⟩) (Or.inl ⟨by kernel_rfl, ?hy10⟩) ?r10
    case hy10 =>
      intro w hSw
      try dsimp only at hSw
      go_simp
      first | (obtain ⟨y0, y1⟩ := hSw; go_simp) | skip
      try with_reducible rfl
    try simp only [Act.put, List.getElem_toArray, List.getElem_cons_succ, List.getElem_cons_zero, List.setIfInBounds_toArray, List.set_cons_zero, List.set_cons_succ]
    refine AnyBut.last (by kernel_rfl) rfl (by kernel_rfl) (fun K hK => ?_)
    go_simp
    refine hK.out _ _ ?_
    clear hK K
    try simp only [Act.put, List.getElem_toArray, List.getElem_cons_succ, List.getElem_cons_zero, List.setIfInBounds_toArray, List.set_cons_zero, List.set_cons_succ]
    have HP11 : Hid (PBx4 w1 (w10.setCell ⟨q6, 6, none⟩ (.int .i64 time)) p q4 q6 #[.string { data := #[] }, .slice none 0 0, .int .i64 kind, .int .i64 temp, .bool false, .int .i64 start, .int .i64 time, .int .i64 0, .int .u64 0, .int .u64 0, .int .i64 0, .int .u64 0, .int .i64 0, .slice none 0 0, .int .i64 0, .slice none 0 0, .int .i64 flags] l BV) := Lib.hid (HP10.out.set 6 (.int .i64 time))
    clear wadd c6 f6
    obtain ⟨w11, hw11⟩ : ∃ w11, w11 = w10.setCell ⟨q6, 6, none⟩ (.int .i64 time) := ⟨_, rfl⟩
    rw [← hw11] at HP11 ⊢
    clear hw11
    have r0 := cell_rowZ 0 _ HP11.out.rb rfl
    have HB11 := Lib.hid HP11.out.pb
    go_wp2_with (first
      | (refine wpList_load_row rfl 30 (.tmp 6) rfl q6 rfl 30 _ (0, 0) _ HB11.out Tryz.underlying30 rfl point_info ?_)
      | fail)
    refine (HVA.out w1 w11 p HP11.out.rd).mono ?_
    rintro e w12 ⟨va, vc, ua, uc, rfl, o1, o2, h12, k12⟩
    have hp12 := HP11.out.read k12 h12
    have HB12 := Lib.hid hp12.pb
    have HP13 : Hid (PBx4 w1 (w12.setRow q6 #[.string { data := #[] }, .slice none 0 0, .int .i64 kind, .int .i64 temp, .bool false, .int .i64 start, .int .i64 time, .int .i64 whole, .int .u64 re, .int .u64 im, .int .i64 sc, .int .u64 (ze : Int), .int .i64 po, .slice va m vc, .int .i64 no, .slice ua n uc, .int .i64 flags]) p q4 q6 #[.string { data := #[] }, .slice none 0 0, .int .i64 kind, .int .i64 temp, .bool false, .int .i64 start, .int .i64 time, .int .i64 whole, .int .u64 re, .int .u64 im, .int .i64 sc, .int .u64 (ze : Int), .int .i64 po, .slice va m vc, .int .i64 no, .slice ua n uc, .int .i64 flags] l []) := Lib.hid (PBx4.ofRow hp12.rd hp12.rb hp12.pb ⟨hp12.pos.1, hp12.pos.2.1⟩ hp12.pos.2.2 _)
    have k1w : w.heap.size ≤ w11.heap.size := Nat.le_trans HK01.out.size HP11.out.rd.old.size
    have HO1 := Lib.hid (own_row w w12 q6 #[.string { data := #[] }, .slice none 0 0, .int .i64 kind, .int .i64 temp, .bool false, .int .i64 start, .int .i64 time, .int .i64 whole, .int .u64 re, .int .u64 im, .int .i64 sc, .int .u64 (ze : Int), .int .i64 po, .slice va m vc, .int .i64 no, .slice ua n uc, .int .i64 flags] _ (wown_base o1 k1w) hp12.pb)
    have HO2 := Lib.hid (own_row w w12 q6 #[.string { data := #[] }, .slice none 0 0, .int .i64 kind, .int .i64 temp, .bool false, .int .i64 start, .int .i64 time, .int .i64 whole, .int .u64 re, .int .u64 im, .int .i64 sc, .int .u64 (ze : Int), .int .i64 po, .slice va m vc, .int .i64 no, .slice ua n uc, .int .i64 flags] _ (wown_base o2 k1w) hp12.pb)
    have r1 := cell_rowZ 0 _ HP13.out.rb rfl
    have HDN := Lib.hid (rdDone_any HP13.out.rd HLL.out)
    clear h12 k12 hp12 o1 o2 k1w r0
    go_wp2_with (first
      | (refine wpList_store_row rfl 30 (.tmp 6) (.tmp 41) rfl q6 #[.string { data := #[] }, .slice none 0 0, .int .i64 kind, .int .i64 temp, .bool false, .int .i64 start, .int .i64 time, .int .i64 whole, .int .u64 re, .int .u64 im, .int .i64 sc, .int .u64 (ze : Int), .int .i64 po, .slice va m vc, .int .i64 no, .slice ua n uc, .int .i64 flags] rfl rfl 30 _ HB12.out point_info rfl (ptAll _ _ _ _ _ _ _ _ _ _ _ _ _ _ _ _ _ _ _ _ _ _ _) ?_)
      | fail)
    obtain ⟨w13, hw13⟩ : ∃ w13, w13 = w12.setRow q6 #[.string { data := #[] }, .slice none 0 0, .int .i64 kind, .int .i64 temp, .bool false, .int .i64 start, .int .i64 time, .int .i64 whole, .int .u64 re, .int .u64 im, .int .i64 sc, .int .u64 (ze : Int), .int .i64 po, .slice va m vc, .int .i64 no, .slice ua n uc, .int .i64 flags] := ⟨_, rfl⟩
    rw [← hw13] at HP13 HO1 HO2 HDN ⊢
    clear hw13 r1
    refine HDN.out.mono ?_
    rintro e w14 ⟨rfl, k14⟩
    have HP14 := Lib.hid (HP13.out.on k14)
    have HO14 := Lib.hid (And.intro (k14.owns HO1.out (fun _ _ x => x)) (k14.owns HO2.out (fun _ _ x => x)))
    clear k14
    go_wp2_with fail
    refine (HPR.out w14).mono ?_
    rintro e w15 ⟨v, rfl, m15⟩
    obtain ⟨a1, c1, rfl⟩ := m15.slice
    rw [HSL.out] at m15 ⊢
    have hp15 := HP14.out.on m15.kept
    have HM15 := Lib.hid m15
    have HP15 := Lib.hid hp15
    have HO15 := Lib.hid (And.intro (m15.kept.owns HO14.out.1 (fun _ _ x => x)) (m15.kept.owns HO14.out.2 (fun _ _ x => x)))
    have q2 : decide (1 < mi) = false := decide_eq_false (by have := HMI.out.1; omega)
    have q3 : (mi == 1) = mono := by have := HMI.out.2; rw [this]; cases mono <;> rfl
    have c0 := cell_rowZ 0 _ hp15.pb rfl
    have f0 := free_of_rowZ 0 hp15.pb
    have cc1 := cell_rowZ 1 _ hp15.pb rfl
    have f1 := free_of_rowZ 1 hp15.pb
    have c4 := cell_rowZ 4 _ hp15.pb rfl
    have f4 := free_of_rowZ 4 hp15.pb
    clear m15 hp15
    go_upto_region 18 with fail
    obtain ⟨w16, hw16⟩ : ∃ w16, w16 = ((w15.setCell ⟨q6, 0, none⟩ (.string name)).setCell ⟨q6, 1, none⟩ (.slice a1 al c1)).setCell ⟨q6, 4, none⟩ (.bool mono) := ⟨_, rfl⟩
    have HP16 : Hid (PBx4 w1 w16 p q4 q6 #[.string name, .slice a1 al c1, .int .i64 kind, .int .i64 temp, .bool mono, .int .i64 start, .int .i64 time, .int .i64 whole, .int .u64 re, .int .u64 im, .int .i64 sc, .int .u64 (ze : Int), .int .i64 po, .slice va m vc, .int .i64 no, .slice ua n uc, .int .i64 flags] l []) := Lib.hid (by rw [hw16]; exact ((HP15.out.set 0 (.string name)).set 1 (.slice a1 al c1)).set 4 (.bool mono))
    have k16 : Kept (fun k => k = q6) w15 w16 := by rw [hw16]; exact (((Kept.refl (fun k => k = q6) w15).setCell (p := ⟨q6, 0, none⟩) (fun _ => rfl) _).setCell (p := ⟨q6, 1, none⟩) (fun _ => rfl) _).setCell (p := ⟨q6, 4, none⟩) (fun _ => rfl) _
    have HM16 : Hid (MineP w w16 (.slice a1 al c1) (sortP L)) := Lib.hid ((HM15.out.down (HK01.out.trans HP14.out.rd.old)).keptS k16 (fun j e x => own_box HM15.out.own HP15.out.pb (by decide) (by rw [e, x])) (fun j e => by have := HP15.out.pos; have := HK01.out.size; omega))
    have HO16 := Lib.hid (And.intro (k16.owns HO15.out.1 (fun j e x => own_box HO15.out.1 HP15.out.pb (by decide) (by rw [e, x]))) (k16.owns HO15.out.2 (fun j e x => own_box HO15.out.2 HP15.out.pb (by decide) (by rw [e, x]))))
    rw [← hw16]
    have HB16 := Lib.hid HP16.out.pb
    clear hw16 k16 c0 f0 cc1 f1 c4 f4
    go_wp2_with (first
      | (refine wpList_load_row rfl 30 (.tmp 6) rfl q6 rfl 30 _ (0, 0) _ HB16.out Tryz.underlying30 rfl point_info ?_)
      | fail)
    refine (HCK.out w16 a1 va ua c1 vc uc ⟨HM16.out.at_, own_cap HM16.out.own, ⟨SlAt.ofOwn HO16.out.1, SlAt.ofOwn HO16.out.2⟩⟩).mono ?_
    rintro e w17 ⟨rfl, k17⟩
    have HB17 := Lib.hid (HP16.out.on k17).pb
    have HR17 := Lib.hid ((HP16.out.on k17).rd.old.same HR1.out (fun x => x))
    have hm17 := HM16.out.on k17
    have ho1 := k17.owns HO16.out.1 (fun _ _ x => x)
    have ho2 := k17.owns HO16.out.2 (fun _ _ x => x)
    have HRF : Hid ((w17.setRow qr #[.string name, .slice a1 al c1, .int .i64 kind, .int .i64 temp, .bool mono, .int .i64 start, .int .i64 time, .int .i64 whole, .int .u64 re, .int .u64 im, .int .i64 sc, .int .u64 (ze : Int), .int .i64 po, .slice va m vc, .int .i64 no, .slice ua n uc, .int .i64 flags]).heap[qr]? = some (.cells #[.string name, .slice a1 al c1, .int .i64 kind, .int .i64 temp, .bool mono, .int .i64 start, .int .i64 time, .int .i64 whole, .int .u64 re, .int .u64 im, .int .i64 sc, .int .u64 (ze : Int), .int .i64 po, .slice va m vc, .int .i64 no, .slice ua n uc, .int .i64 flags] 30 (0, 0))) := Lib.hid (setRow_heap _ _ _ _ _ _ HR17.out)
    have HM18 : Hid (MineP w (w17.setRow qr #[.string name, .slice a1 al c1, .int .i64 kind, .int .i64 temp, .bool mono, .int .i64 start, .int .i64 time, .int .i64 whole, .int .u64 re, .int .u64 im, .int .i64 sc, .int .u64 (ze : Int), .int .i64 po, .slice va m vc, .int .i64 no, .slice ua n uc, .int .i64 flags]) (.slice a1 al c1) (sortP L)) := Lib.hid (hm17.keptS (setRow_keptW w17 qr #[.string name, .slice a1 al c1, .int .i64 kind, .int .i64 temp, .bool mono, .int .i64 start, .int .i64 time, .int .i64 whole, .int .u64 re, .int .u64 im, .int .i64 sc, .int .u64 (ze : Int), .int .i64 po, .slice va m vc, .int .i64 no, .slice ua n uc, .int .i64 flags]) (fun j e x => own_box hm17.own HR17.out (by decide) (by rw [e, x])) (fun j e => by have := HW1.out.2; omega))
    have HO18 := Lib.hid (And.intro (own_row w w17 qr #[.string name, .slice a1 al c1, .int .i64 kind, .int .i64 temp, .bool mono, .int .i64 start, .int .i64 time, .int .i64 whole, .int .u64 re, .int .u64 im, .int .i64 sc, .int .u64 (ze : Int), .int .i64 po, .slice va m vc, .int .i64 no, .slice ua n uc, .int .i64 flags] _ ho1 HR17.out) (own_row w w17 qr #[.string name, .slice a1 al c1, .int .i64 kind, .int .i64 temp, .bool mono, .int .i64 start, .int .i64 time, .int .i64 whole, .int .u64 re, .int .u64 im, .int .i64 sc, .int .u64 (ze : Int), .int .i64 po, .slice va m vc, .int .i64 no, .slice ua n uc, .int .i64 flags] _ ho2 HR17.out))
    clear hm17 ho1 ho2 k17
    go_wp2_with (first
      | (refine wpList_load_row rfl 30 (.tmp 6) rfl q6 rfl 30 _ (0, 0) _ HB17.out Tryz.underlying30 rfl point_info ?_)
      | (refine wpList_store_row rfl 30 (.tmp 2) (.tmp 76) rfl qr #[.string name, .slice a1 al c1, .int .i64 kind, .int .i64 temp, .bool mono, .int .i64 start, .int .i64 time, .int .i64 whole, .int .u64 re, .int .u64 im, .int .i64 sc, .int .u64 (ze : Int), .int .i64 po, .slice va m vc, .int .i64 no, .slice ua n uc, .int .i64 flags] rfl rfl 30 _ HR17.out point_info rfl (ptAll _ _ _ _ _ _ _ _ _ _ _ _ _ _ _ _ _ _ _ _ _ _ _) ?_)
      | fail)
    exact pt_end Tryz.results9 rfl rfl rfl HRF.out rfl (HQ.out _ a1 c1 va vc ua uc HM18.out HO18.out.1 HO18.out.2)
end Go.Proofs.YteflepcmblacaaaGreatDoor
