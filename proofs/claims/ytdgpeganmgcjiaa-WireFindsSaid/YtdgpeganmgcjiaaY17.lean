/- Layer 30: the walk of WireFinds. -/
import Derived.Test.YtdgpeganmgcjiaaY16
import Derived.Test.YtdgpeganmgcjiaaG3
namespace Go.Proofs.Ytdgpeganmgcjiaa
open Go.RowKit
attribute [local go_sem ↓] Go.wp_at_zero Go.wp_at_succ

set_option maxHeartbeats 8000000 in
set_option maxRecDepth 100000 in
theorem wireFinds_A (ao : Option Addr) (c : Nat) (L : List PR) (num : Int) (zo : Option Addr) (zc : Nat) (zl : List Nat) (bo : Option Addr) (cb : Nat) (bl : List Nat) (W : World)
    (hr : FldsAt W ao L) (hz : SlAt W (.slice zo zl.length zc) (uvals zl)) (hzb : ∀ x ∈ zl, x < 18446744073709551616) (hb : By W bo cb bl) (hf : fewF L = true) (hzl : zl.length ≤ 60) (hbl : bl.length ≤ 300) (hfe : L.filter (isNum num) = []) :
    Calls Try.prog 5 #[.slice ao L.length c, .int .i64 num, .slice zo zl.length zc, .slice bo bl.length cb] W fun e w' => e = .returned (.bool true) ∧ Kept (fun _ => False) W w' := by
  obtain ⟨hL1, hL2⟩ := fewF_true hf
  have HAW := Lib.hid (awake30_any W)
  have HFW := Lib.hid fun w' (k : Kept (fun _ => False) W w') => few30_any ao c L w' (hr.kept k) (by omega)
  rw [hf] at HFW
  have HA3 := Lib.hid fun w' (k : Kept (fun _ => False) W w') => all30_any ao c L num w' (hr.kept k) (by omega)
  have HLA := Lib.hid fun w' (k : Kept (fun _ => False) W w') => wLast_any ao c L num w' (hr.kept k) (by omega) (fun p hp => by have := hL2 p hp; omega)
  have HALL := Lib.hid fun w' (k : Kept (fun _ => False) W w') => wAll_any ao c L num w' (hr.kept k) (by omega) (fun p hp => by have := hL2 p hp; omega)
  have HPK := Lib.hid fun w' (k : Kept (fun _ => False) W w') => wPacked_any _ zl w' (hz.kept k (fun _ _ x => x)) hzb (by omega)
  have hpl := packW_length zl
  have HUN := Lib.hid fun w' a c (h : By w' a c (packW zl)) => wUnpacked_any a c (packW zl) w' h (by omega) zl 0 (unpW_put zl hzb)
  have HPB := Lib.hid (show ∀ x ∈ packW zl, x < 256 from fun x hx => by
    unfold packW at hx; obtain ⟨v, hv, hx⟩ := List.mem_flatMap.1 hx; exact varW_byte v (hzb v hv) x hx)
  have HZ := Lib.hid hz
  have HBY := Lib.hid hb
  obtain ⟨RB, EB, hRE⟩ : ∃ R E, unpW bl = (R, E) := ⟨_, _, rfl⟩
  have HUB := Lib.hid fun w' (h : By w' bo cb bl) => wUnpacked_any bo cb bl w' h (by omega) RB EB hRE
  have HRB : Hid ((EB ≠ 0 → RB = []) ∧ (EB = 0 → packW RB = bl ∧ (∀ x ∈ RB, x < 18446744073709551616) ∧ RB.length ≤ 100000)) := Lib.hid (by
    have h := unpA_got bl.length [] bl (Nat.le_refl _) hb.lt
    unfold unpW at hRE
    rw [hRE] at h
    refine ⟨h.1, fun e => ?_⟩
    obtain ⟨m, e1, e2, e3, e4⟩ := h.2 e
    simp only [List.nil_append] at e1
    subst e1
    exact ⟨e2, e4, by omega⟩)
  have HCB := Lib.hid fun w' (k : Kept (fun _ => False) W w') => (hb.kept k).conv
  obtain ⟨F, hF⟩ : ∃ F, F = L.filter (isNum num) := ⟨_, rfl⟩
  have HFL := Lib.hid (show F.length ≤ 60 by rw [hF]; have := List.length_filter_le (isNum num) L; omega)
  unfold LastGot at HLA
  unfold sameR at HALL
  rw [← hF] at HA3 HLA HALL hfe
  have HFE := Lib.hid hfe
  clear hfe
  obtain ⟨nz, hnz⟩ : ∃ n, n = zl.length := ⟨_, rfl⟩
  have HNZ := Lib.hid hnz
  obtain ⟨n9, hn9⟩ : ∃ n, n = bl.length := ⟨_, rfl⟩
  have HN9 := Lib.hid hn9
  obtain ⟨SS, hSS⟩ : ∃ s, s = strN bl := ⟨_, rfl⟩
  have HSTR := Lib.hid hSS
  obtain ⟨nl, hnl⟩ : ∃ n, n = L.length := ⟨_, rfl⟩
  rw [← hnz] at HPK HUN HZ hzl ⊢
  rw [← hn9] at HUB HCB hbl ⊢
  rw [← hSS] at HCB
  rw [← hnl] at HFW HA3 HLA HALL hL1 ⊢
  have z60 : ¬ (60 : Int) < (nz : Int) := by omega
  have b300 : ¬ (300 : Int) < (n9 : Int) := by omega
  clear hr hz hzb hb hf hL1 hL2 hpl hRE hF hnz hn9 hSS hnl
  go_enter Try.func5, Try.ntmps5
  go_wp2_with fail
  refine HAW.out.mono ?_
  rintro e w0 ⟨rfl, k0⟩
  have K0 := Lib.hid k0
  clear k0
  go_wp2_with fail
  refine (HFW.out _ K0.out).mono ?_
  rintro e w1 ⟨rfl, rfl⟩
  go_wp2_with fail
  refine (HA3.out _ K0.out).mono ?_
  rintro e w1 ⟨a3, c3, rfl, hm1⟩
  have HF1 := Lib.hid hm1.at_
  have HFC := Lib.hid (own_cap hm1.own)
  have K1 := Lib.hid (K0.out.trans hm1.kept)
  clear hm1
  obtain ⟨nf, hnf⟩ : ∃ n, n = F.length := ⟨_, rfl⟩
  have HNF := Lib.hid hnf
  have HSAME := Lib.hid fun w' a4 c4 M4 (h : FldsAt w' a4 M4) (h3 : FldsAt w' a3 F) (e : recsR M4 = recsR F) => same30_any a4 a3 c4 c3 M4 F w' h h3 e (by have h := congrArg List.length e; simp only [recsR, List.length_map] at h; have := HFL.out; omega)
  rw [← hnf] at HFL HFC HSAME ⊢
  clear hnf
  go_wp2_with fail
  refine (HLA.out _ K1.out).mono ?_
  rintro e w2 (⟨hF0, rfl, hk2⟩ | ⟨M0, p0, aL, cL, hF0, rfl, hok2, hk2⟩)
  · have KB := Lib.hid ((K1.out.trans hk2).alloc (.cells #[.int .i64 0, .int .i64 0, .int .u64 0, .slice none 0 0] 40))
    have HFB := Lib.hid (HF1.out.kept (hk2.alloc (.cells #[.int .i64 0, .int .i64 0, .int .u64 0, .slice none 0 0] 40)))
    have hn0 : nf = 0 := by rw [HNF.out, hF0]; rfl
    have en1 : decide ((0 : Int) < (nf : Int)) = false := decide_eq_false (by omega)
    have en2 : ¬ (0 : Int) < (nf : Int) := by omega
    have en3 : decide (0 < nf) = false := decide_eq_false (by omega)
    clear hF0 hn0
    obtain ⟨wb, hwb⟩ : ∃ w', w' = w2.alloc (.cells #[.int .i64 0, .int .i64 0, .int .u64 0, .slice none 0 0] 40) := ⟨_, rfl⟩
    rw [← hwb] at KB HFB
    have HWB := Lib.hid hwb
    clear hwb hk2
    go_upto_region 7 with fail
    rw [← HWB.out]
    refine AnyBut.start (S := fun _ => True) (k := 27) (by kernel_rfl) ?_
    obtain ⟨wd, hwd⟩ : ∃ w', w' = wb.drew := ⟨_, rfl⟩
    have KD0 := Lib.hid (Kept.refl (fun _ => False) wb).drew
    rw [← hwd] at KD0 ⊢
    have KD := Lib.hid (KB.out.trans KD0.out)
    have HF3 := Lib.hid (HFB.out.kept KD0.out)
    clear hwd
    refine AnyBut.takeS (i := 0) (v := ?v1) rfl (by kernel_rfl) (Nat.le_of_eq (by kernel_rfl)) (by kernel_rfl) (by kernel_rfl) (fun _ _ _ h => h) (trivial) (Or.inl ⟨by kernel_rfl, ?hy1⟩) ?r1
    case hy1 =>
      intro w hSw
      try dsimp only at hSw
      go_simp
      try with_reducible rfl
    try simp only [Act.put, List.getElem_toArray, List.getElem_cons_zero, List.setIfInBounds_toArray, List.set_cons_zero, List.set_cons_succ]
    refine AnyBut.takeS (i := 1) (v := ?v2) rfl (by kernel_rfl) (Nat.le_of_eq (by kernel_rfl)) (by kernel_rfl) (by kernel_rfl) (fun _ _ _ h => h) (trivial) (Or.inl ⟨by kernel_rfl, ?hy2⟩) ?r2
    case hy2 =>
      intro w hSw
      try dsimp only at hSw
      go_simp
      try with_reducible rfl
    try simp only [Act.put, List.getElem_toArray, List.getElem_cons_succ, List.getElem_cons_zero, List.setIfInBounds_toArray, List.set_cons_zero, List.set_cons_succ]
    refine AnyBut.takeS (i := 3) (v := ?v3) rfl (by kernel_rfl) (Nat.le_of_eq (by kernel_rfl)) (by kernel_rfl) (by kernel_rfl) (fun _ _ _ h => h) (trivial) (Or.inl ⟨by kernel_rfl, ?hy3⟩) ?r3
    case hy3 =>
      intro w hSw
      try dsimp only at hSw
      go_simp
      try with_reducible rfl
    try simp only [Act.put, List.getElem_toArray, List.getElem_cons_succ, List.getElem_cons_zero, List.setIfInBounds_toArray, List.set_cons_zero, List.set_cons_succ]
    refine AnyBut.one (i := 2) (by kernel_rfl) rfl (fun K hK => ?_)
    go_simp
    go_wp2_with fail
    refine (HALL.out _ KD.out).mono ?_
    rintro e w4 ⟨M4, a4, c4, hsr4, rfl, hm4⟩
    have HSR4 := Lib.hid (show recsR M4 = recsR F from hsr4)
    have HM4 := Lib.hid hm4
    have K4 := Lib.hid (KD.out.trans hm4.kept)
    have HF4 := Lib.hid ((HF3.out.kept hm4.kept))
    clear hsr4 hm4
    go_wp2
    refine hK.out _ _ (trivial) ?_
    clear hK K
    try simp only [Act.put, List.getElem_toArray, List.getElem_cons_succ, List.getElem_cons_zero, List.setIfInBounds_toArray, List.set_cons_zero, List.set_cons_succ]
    refine AnyBut.one (i := 4) (by kernel_rfl) rfl (fun K hK => ?_)
    go_simp
    go_wp2_with fail
    refine (HSAME.out w4 a4 c4 M4 HM4.out.at_ HF4.out HSR4.out).mono ?_
    rintro e w5 ⟨rfl, k5⟩
    have K5 := Lib.hid (K4.out.trans k5)
    clear k5
    go_wp2
    refine hK.out _ _ (trivial) ?_
    clear hK K
    try simp only [Act.put, List.getElem_toArray, List.getElem_cons_succ, List.getElem_cons_zero, List.setIfInBounds_toArray, List.set_cons_zero, List.set_cons_succ]
    refine AnyBut.takeS (i := 5) (v := ?v4) rfl (by kernel_rfl) (Nat.le_of_eq (by kernel_rfl)) (by kernel_rfl) (by kernel_rfl) (fun _ _ _ h => h) (trivial) (Or.inl ⟨by kernel_rfl, ?hy4⟩) ?r4
    case hy4 =>
      intro w hSw
      try dsimp only at hSw
      go_simp
      try with_reducible rfl
    try simp only [Act.put, List.getElem_toArray, List.getElem_cons_succ, List.getElem_cons_zero, List.setIfInBounds_toArray, List.set_cons_zero, List.set_cons_succ]
    refine AnyBut.takeS (i := 6) (v := ?v5) rfl (by kernel_rfl) (Nat.le_of_eq (by kernel_rfl)) (by kernel_rfl) (by kernel_rfl) (fun _ _ _ h => h) (trivial) (Or.inl ⟨by kernel_rfl, ?hy5⟩) ?r5
    case hy5 =>
      intro w hSw
      try dsimp only at hSw
      go_simp
      try with_reducible rfl
    try simp only [Act.put, List.getElem_toArray, List.getElem_cons_succ, List.getElem_cons_zero, List.setIfInBounds_toArray, List.set_cons_zero, List.set_cons_succ]
    refine AnyBut.takeS (i := 7) (v := ?v6) rfl (by kernel_rfl) (Nat.le_of_eq (by kernel_rfl)) (by kernel_rfl) (by kernel_rfl) (fun _ _ _ h => h) (trivial) (Or.inl ⟨by kernel_rfl, ?hy6⟩) ?r6
    case hy6 =>
      intro w hSw
      try dsimp only at hSw
      go_simp
      try with_reducible rfl
    try simp only [Act.put, List.getElem_toArray, List.getElem_cons_succ, List.getElem_cons_zero, List.setIfInBounds_toArray, List.set_cons_zero, List.set_cons_succ]
    refine AnyBut.takeS (i := 8) (v := ?v7) rfl (by kernel_rfl) (Nat.le_of_eq (by kernel_rfl)) (by kernel_rfl) (by kernel_rfl) (fun _ _ _ h => h) (trivial) (Or.inl ⟨by kernel_rfl, ?hy7⟩) ?r7
    case hy7 =>
      intro w hSw
      try dsimp only at hSw
      go_simp
      try with_reducible rfl
    try simp only [Act.put, List.getElem_toArray, List.getElem_cons_succ, List.getElem_cons_zero, List.setIfInBounds_toArray, List.set_cons_zero, List.set_cons_succ]
    refine AnyBut.takeS (i := 9) (v := ?v8) rfl (by kernel_rfl) (Nat.le_of_eq (by kernel_rfl)) (by kernel_rfl) (by kernel_rfl) (fun _ _ _ h => h) (trivial) (Or.inl ⟨by kernel_rfl, ?hy8⟩) ?r8
    case hy8 =>
      intro w hSw
      try dsimp only at hSw
      go_simp
      try with_reducible rfl
    try simp only [Act.put, List.getElem_toArray, List.getElem_cons_succ, List.getElem_cons_zero, List.setIfInBounds_toArray, List.set_cons_zero, List.set_cons_succ]
    refine AnyBut.takeS (i := 10) (v := ?v9) rfl (by kernel_rfl) (Nat.le_of_eq (by kernel_rfl)) (by kernel_rfl) (by kernel_rfl) (fun _ _ _ h => h) (trivial) (Or.inl ⟨by kernel_rfl, ?hy9⟩) ?r9
    case hy9 =>
      intro w hSw
      try dsimp only at hSw
      go_simp
      try with_reducible rfl
    try simp only [Act.put, List.getElem_toArray, List.getElem_cons_succ, List.getElem_cons_zero, List.setIfInBounds_toArray, List.set_cons_zero, List.set_cons_succ]
    refine AnyBut.takeS (i := 11) (v := ?v10) rfl (by kernel_rfl) (Nat.le_of_eq (by kernel_rfl)) (by kernel_rfl) (by kernel_rfl) (fun _ _ _ h => h) (trivial) (Or.inl ⟨by kernel_rfl, ?hy10⟩) ?r10
    case hy10 =>
      intro w hSw
      try dsimp only at hSw
      go_simp
      try with_reducible rfl
    try simp only [Act.put, List.getElem_toArray, List.getElem_cons_succ, List.getElem_cons_zero, List.setIfInBounds_toArray, List.set_cons_zero, List.set_cons_succ]
    refine AnyBut.takeS (i := 12) (v := ?v11) rfl (by kernel_rfl) (Nat.le_of_eq (by kernel_rfl)) (by kernel_rfl) (by kernel_rfl) (fun _ _ _ h => h) (trivial) (Or.inl ⟨by kernel_rfl, ?hy11⟩) ?r11
    case hy11 =>
      intro w hSw
      try dsimp only at hSw
      go_simp
      try with_reducible rfl
    try simp only [Act.put, List.getElem_toArray, List.getElem_cons_succ, List.getElem_cons_zero, List.setIfInBounds_toArray, List.set_cons_zero, List.set_cons_succ]
    refine AnyBut.takeS (i := 13) (v := ?v12) rfl (by kernel_rfl) (Nat.le_of_eq (by kernel_rfl)) (by kernel_rfl) (by kernel_rfl) (fun _ _ _ h => h) (trivial) (Or.inl ⟨by kernel_rfl, ?hy12⟩) ?r12
    case hy12 =>
      intro w hSw
      try dsimp only at hSw
      go_simp
      try with_reducible rfl
    try simp only [Act.put, List.getElem_toArray, List.getElem_cons_succ, List.getElem_cons_zero, List.setIfInBounds_toArray, List.set_cons_zero, List.set_cons_succ]
    refine AnyBut.takeS (i := 14) (v := ?v13) rfl (by kernel_rfl) (Nat.le_of_eq (by kernel_rfl)) (by kernel_rfl) (by kernel_rfl) (fun _ _ _ h => h) (trivial) (Or.inl ⟨by kernel_rfl, ?hy13⟩) ?r13
    case hy13 =>
      intro w hSw
      try dsimp only at hSw
      go_simp
      try with_reducible rfl
    try simp only [Act.put, List.getElem_toArray, List.getElem_cons_succ, List.getElem_cons_zero, List.setIfInBounds_toArray, List.set_cons_zero, List.set_cons_succ]
    refine AnyBut.takeS (i := 15) (v := ?v14) rfl (by kernel_rfl) (Nat.le_of_eq (by kernel_rfl)) (by kernel_rfl) (by kernel_rfl) (fun _ _ _ h => h) (trivial) (Or.inl ⟨by kernel_rfl, ?hy14⟩) ?r14
    case hy14 =>
      intro w hSw
      try dsimp only at hSw
      go_simp
      try with_reducible rfl
    try simp only [Act.put, List.getElem_toArray, List.getElem_cons_succ, List.getElem_cons_zero, List.setIfInBounds_toArray, List.set_cons_zero, List.set_cons_succ]
    refine AnyBut.takeS (i := 16) (v := undef) rfl (by kernel_rfl) (Nat.le_of_eq (by kernel_rfl)) (by kernel_rfl) (by kernel_rfl) (fun _ _ _ h => h) (trivial) (Or.inr ⟨by kernel_rfl, rfl⟩) ?r15
    try simp only [Act.put, List.getElem_toArray, List.getElem_cons_succ, List.getElem_cons_zero, List.setIfInBounds_toArray, List.set_cons_zero, List.set_cons_succ]
    refine AnyBut.takeS (i := 17) (v := undef) rfl (by kernel_rfl) (Nat.le_of_eq (by kernel_rfl)) (by kernel_rfl) (by kernel_rfl) (fun _ _ _ h => h) (trivial) (Or.inr ⟨by kernel_rfl, rfl⟩) ?r16
    try simp only [Act.put, List.getElem_toArray, List.getElem_cons_succ, List.getElem_cons_zero, List.setIfInBounds_toArray, List.set_cons_zero, List.set_cons_succ]
    refine AnyBut.takeS (i := 18) (v := undef) rfl (by kernel_rfl) (Nat.le_of_eq (by kernel_rfl)) (by kernel_rfl) (by kernel_rfl) (fun _ _ _ h => h) (trivial) (Or.inr ⟨by kernel_rfl, rfl⟩) ?r17
    try simp only [Act.put, List.getElem_toArray, List.getElem_cons_succ, List.getElem_cons_zero, List.setIfInBounds_toArray, List.set_cons_zero, List.set_cons_succ]
    refine AnyBut.takeS (i := 19) (v := undef) rfl (by kernel_rfl) (Nat.le_of_eq (by kernel_rfl)) (by kernel_rfl) (by kernel_rfl) (fun _ _ _ h => h) (trivial) (Or.inr ⟨by kernel_rfl, rfl⟩) ?r18
    try simp only [Act.put, List.getElem_toArray, List.getElem_cons_succ, List.getElem_cons_zero, List.setIfInBounds_toArray, List.set_cons_zero, List.set_cons_succ]
    refine AnyBut.takeS (i := 20) (v := undef) rfl (by kernel_rfl) (Nat.le_of_eq (by kernel_rfl)) (by kernel_rfl) (by kernel_rfl) (fun _ _ _ h => h) (trivial) (Or.inr ⟨by kernel_rfl, rfl⟩) ?r19
    try simp only [Act.put, List.getElem_toArray, List.getElem_cons_succ, List.getElem_cons_zero, List.setIfInBounds_toArray, List.set_cons_zero, List.set_cons_succ]
    refine AnyBut.takeS (i := 21) (v := undef) rfl (by kernel_rfl) (Nat.le_of_eq (by kernel_rfl)) (by kernel_rfl) (by kernel_rfl) (fun _ _ _ h => h) (trivial) (Or.inr ⟨by kernel_rfl, rfl⟩) ?r20
    try simp only [Act.put, List.getElem_toArray, List.getElem_cons_succ, List.getElem_cons_zero, List.setIfInBounds_toArray, List.set_cons_zero, List.set_cons_succ]
    refine AnyBut.takeS (i := 22) (v := undef) rfl (by kernel_rfl) (Nat.le_of_eq (by kernel_rfl)) (by kernel_rfl) (by kernel_rfl) (fun _ _ _ h => h) (trivial) (Or.inr ⟨by kernel_rfl, rfl⟩) ?r21
    try simp only [Act.put, List.getElem_toArray, List.getElem_cons_succ, List.getElem_cons_zero, List.setIfInBounds_toArray, List.set_cons_zero, List.set_cons_succ]
    refine AnyBut.takeS (i := 23) (v := undef) rfl (by kernel_rfl) (Nat.le_of_eq (by kernel_rfl)) (by kernel_rfl) (by kernel_rfl) (fun _ _ _ h => h) (trivial) (Or.inr ⟨by kernel_rfl, rfl⟩) ?r22
    try simp only [Act.put, List.getElem_toArray, List.getElem_cons_succ, List.getElem_cons_zero, List.setIfInBounds_toArray, List.set_cons_zero, List.set_cons_succ]
    refine AnyBut.takeS (i := 24) (v := undef) rfl (by kernel_rfl) (Nat.le_of_eq (by kernel_rfl)) (by kernel_rfl) (by kernel_rfl) (fun _ _ _ h => h) (trivial) (Or.inr ⟨by kernel_rfl, rfl⟩) ?r23
    try simp only [Act.put, List.getElem_toArray, List.getElem_cons_succ, List.getElem_cons_zero, List.setIfInBounds_toArray, List.set_cons_zero, List.set_cons_succ]
    refine AnyBut.takeS (i := 25) (v := ?v24) rfl (by kernel_rfl) (Nat.le_of_eq (by kernel_rfl)) (by kernel_rfl) (by kernel_rfl) (fun _ _ _ h => h) (trivial) (Or.inl ⟨by kernel_rfl, ?hy24⟩) ?r24
    case hy24 =>
      intro w hSw
      try dsimp only at hSw
      go_simp
      try with_reducible rfl
    try simp only [Act.put, List.getElem_toArray, List.getElem_cons_succ, List.getElem_cons_zero, List.setIfInBounds_toArray, List.set_cons_zero, List.set_cons_succ]
    refine AnyBut.takeS (i := 26) (v := ?v25) rfl (by kernel_rfl) (Nat.le_of_eq (by kernel_rfl)) (by kernel_rfl) (by kernel_rfl) (fun _ _ _ h => h) (trivial) (Or.inl ⟨by kernel_rfl, ?hy25⟩) ?r25
    case hy25 =>
      intro w hSw
      try dsimp only at hSw
      go_simp
      try with_reducible rfl
    try simp only [Act.put, List.getElem_toArray, List.getElem_cons_succ, List.getElem_cons_zero, List.setIfInBounds_toArray, List.set_cons_zero, List.set_cons_succ]
    refine AnyBut.done (by kernel_rfl) ?_
    have KX := Lib.hid K5.out
    go_wp2_with fail
    refine (HPK.out _ KX.out).mono ?_
    rintro e w8 ⟨a8, c8, rfl, hm8⟩
    have HM8 := Lib.hid hm8
    have K8 := Lib.hid (KX.out.trans hm8.kept)
    have HU8 := Lib.hid (HUN.out w8 a8 c8 (By.ofMine hm8 HPB.out))
    clear hm8
    go_wp2_with fail
    refine HU8.out.mono ?_
    rintro e w9 ⟨a9, c9, rfl, hm9⟩
    have HM9 := Lib.hid hm9
    have K9 := Lib.hid (K8.out.trans hm9.kept)
    have HM9' := Lib.hid hm9.at_
    clear hm9
    go_wp2
    go_loopw [15] (fun t wr => ∃ j : Nat, j ≤ nz ∧ t = .int .i64 j ∧ Kept (fun _ => False) w9 wr) (fun t _ => nz - (intOf t).toNat)
    case atStart => exact ⟨0, by omega, rfl, Kept.refl _ _⟩
    case round =>
      obtain ⟨j, hj, rfl, hk⟩ := hrel
      have HK := Lib.hid hk
      clear hk
      by_cases hd : j < nz
      · have hd' : (j : Int) < (nz : Int) := by omega
        have hj0 : (0 : Int) ≤ (j : Int) := by omega
        obtain ⟨g, off, rfl, h1⟩ := (HM9'.out.kept HK.out (fun _ _ x => x)).elem (uvals_get (l := zl) (j := j) (by have := HNZ.out; omega))
        obtain ⟨g2, off2, rfl, h2⟩ := (HZ.out.kept (K9.out.trans HK.out) (fun _ _ x => x)).elem (uvals_get (l := zl) (j := j) (by have := HNZ.out; omega))
        obtain ⟨x, hx⟩ : ∃ x, x = zl.getD j 0 := ⟨_, rfl⟩
        rw [← hx] at h1 h2
        have ex : ((x : Int) != (x : Int)) = false := by simp
        clear hx
        go_wp2
        go_quiet (fail)
        go_wp2
        go_roundw
        case rel => exact ⟨j + 1, hd, by go_num, HK.out.drewN _⟩
        case measure => simp [intOf]; omega
      · obtain rfl : j = nz := by omega
        have KW := Lib.hid (K9.out.trans HK.out)
        clear hd
        go_wp2_with fail
        refine (HUB.out _ (HBY.out.kept KW.out)).mono ?_
        rintro e w12 ⟨a12, c12, rfl, hm12⟩
        have HM12 := Lib.hid hm12
        have K12 := Lib.hid (KW.out.trans hm12.kept)
        clear hm12
        by_cases hE : EB = 0
        · subst hE
          have HPK2 := Lib.hid fun w' (k : Kept (fun _ => False) w12 w') => wPacked_any (.slice a12 RB.length c12) RB w' (HM12.out.at_.kept k (fun _ _ x => x)) (HRB.out.2 rfl).2.1 (HRB.out.2 rfl).2.2
          rw [(HRB.out.2 rfl).1, ← HN9.out] at HPK2
          have HC14 := Lib.hid fun (w w' : World) v (h : Mine w w' 5 v (bys bl)) => mine_conv h
          rw [← HSTR.out] at HC14
          obtain ⟨RBL, hRBL⟩ : ∃ x, x = RB.length := ⟨_, rfl⟩
          rw [← hRBL] at HPK2 ⊢
          clear hRBL
          go_upto_region 21 with fail
          have K12d := Lib.hid (Kept.refl (fun _ => False) w12).drew
          refine AnyBut.start (S := fun w' => (convert 25 9 (.slice bo n9 cb)).run Try.prog w' = .ok (.string SS) w') (k := 7) (by kernel_rfl) ?_
          obtain ⟨we, hwe⟩ : ∃ w', w' = w12.drew := ⟨_, rfl⟩
          rw [← hwe] at K12d ⊢
          have KE := Lib.hid (K12.out.trans K12d.out)
          have HPK3 := Lib.hid (HPK2.out we K12d.out)
          have HSE : Hid ((fun w' => (convert 25 9 (.slice bo n9 cb)).run Try.prog w' = .ok (.string SS) w') we) := Lib.hid (HCB.out _ KE.out)
          clear hwe
          refine AnyBut.takeS (i := 0) (v := ?v49) rfl (by kernel_rfl) (Nat.le_of_eq (by kernel_rfl)) (by kernel_rfl) (by kernel_rfl) (fun _ _ _ h => h) (HSE.out) (Or.inl ⟨by kernel_rfl, ?hy49⟩) ?r49
          case hy49 =>
            intro w hSw
            try dsimp only at hSw
            go_simp
            try with_reducible rfl
          try simp only [Act.put, List.getElem_toArray, List.getElem_cons_zero, List.setIfInBounds_toArray, List.set_cons_zero, List.set_cons_succ]
          refine AnyBut.takeS (i := 3) (v := ?v50) rfl (by kernel_rfl) (Nat.le_of_eq (by kernel_rfl)) (by kernel_rfl) (by kernel_rfl) (fun _ _ _ h => h) (HSE.out) (Or.inl ⟨by kernel_rfl, ?hy50⟩) ?r50
          case hy50 =>
            intro w hSw
            try dsimp only at hSw
            go_simp
            try with_reducible rfl
          try simp only [Act.put, List.getElem_toArray, List.getElem_cons_succ, List.getElem_cons_zero, List.setIfInBounds_toArray, List.set_cons_zero, List.set_cons_succ]
          refine AnyBut.takeS (i := 4) (v := ?v51) rfl (by kernel_rfl) (Nat.le_of_eq (by kernel_rfl)) (by kernel_rfl) (by kernel_rfl) (fun _ _ _ h => h) (HSE.out) (Or.inl ⟨by kernel_rfl, ?hy51⟩) ?r51
          case hy51 =>
            intro w hSw
            try dsimp only at hSw
            go_simp
            try with_reducible rfl
          try simp only [Act.put, List.getElem_toArray, List.getElem_cons_succ, List.getElem_cons_zero, List.setIfInBounds_toArray, List.set_cons_zero, List.set_cons_succ]
          refine AnyBut.one (i := 1) (by kernel_rfl) rfl (fun K hK => ?_)
          go_simp
          go_wp2_with fail
          refine (HPK3.out).mono ?_
          rintro e w14 ⟨a14, c14, rfl, hm14⟩
          have HM14 := Lib.hid hm14
          have K14 := Lib.hid (KE.out.trans hm14.kept)
          have HS14 : Hid ((fun w' => (convert 25 9 (.slice bo n9 cb)).run Try.prog w' = .ok (.string SS) w') w14) := Lib.hid (HCB.out _ K14.out)
          clear hm14
          go_wp2
          refine hK.out _ _ (HS14.out) ?_
          clear hK K
          try simp only [Act.put, List.getElem_toArray, List.getElem_cons_succ, List.getElem_cons_zero, List.setIfInBounds_toArray, List.set_cons_zero, List.set_cons_succ]
          refine AnyBut.one (i := 2) (by kernel_rfl) rfl (fun K hK => ?_)
          have hcv := HC14.out _ _ _ HM14.out
          go_simp
          refine hK.out _ _ (HS14.out) ?_
          clear hK K
          try simp only [Act.put, List.getElem_toArray, List.getElem_cons_succ, List.getElem_cons_zero, List.setIfInBounds_toArray, List.set_cons_zero, List.set_cons_succ]
          refine AnyBut.takeS (i := 5) (v := ?v52) rfl (by kernel_rfl) (Nat.le_of_eq (by kernel_rfl)) (by kernel_rfl) (by kernel_rfl) (fun _ _ _ h => h) (HS14.out) (Or.inl ⟨by kernel_rfl, ?hy52⟩) ?r52
          case hy52 =>
            intro w hSw
            try dsimp only at hSw
            go_simp
            try with_reducible rfl
          try simp only [Act.put, List.getElem_toArray, List.getElem_cons_succ, List.getElem_cons_zero, List.setIfInBounds_toArray, List.set_cons_zero, List.set_cons_succ]
          refine AnyBut.takeS (i := 6) (v := ?v53) rfl (by kernel_rfl) (Nat.le_of_eq (by kernel_rfl)) (by kernel_rfl) (by kernel_rfl) (fun _ _ _ h => h) (HS14.out) (Or.inl ⟨by kernel_rfl, ?hy53⟩) ?r53
          case hy53 =>
            intro w hSw
            try dsimp only at hSw
            go_simp
            try with_reducible rfl
          try simp only [Act.put, List.getElem_toArray, List.getElem_cons_succ, List.getElem_cons_zero, List.setIfInBounds_toArray, List.set_cons_zero, List.set_cons_succ]
          refine AnyBut.done (by kernel_rfl) ?_
          go_wp2
          go_ret
          exact ⟨rfl, K14.out⟩
        · have hq : ((EB : Int) != 0) = true := bneT (by omega)
          have HR0 := HRB.out.1 hE
          subst HR0
          clear hE
          go_wp2
          go_ret
          exact ⟨rfl, K12.out⟩
  · exact absurd (HFE.out.symm.trans hF0) (by simp)
end Go.Proofs.Ytdgpeganmgcjiaa
