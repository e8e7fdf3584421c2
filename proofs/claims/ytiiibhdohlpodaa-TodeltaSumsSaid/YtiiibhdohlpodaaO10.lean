/- Layer 15: the walk of TodeltaSums (written by tools/gen_XO10.py). -/
import Derived.Test.YtiiibhdohlpodaaO9
namespace Go.Proofs.Ytiiibhdohlpodaa
open Go.RowKit
attribute [local go_sem ↓] Go.wp_at_zero Go.wp_at_succ

/-- The sum ahead of the i-th answer. -/
def sumI (PW : List (Pnt × Pnt)) (i : Nat) : Int := if i = 0 then 0 else match PW[i - 1]? with
  | some q => q.1.whole
  | none => 0
/-- One answer of whole sums: the sum ahead of it, itself, when it tells that the value fell. -/
theorem sums_at {xs : List Pnt} (hx : ∀ x ∈ xs, I64 x.whole) {i : Nat} {p : Pnt × Pnt} (h : (playW zeroSt xs)[i]? = some p) :
    I64 p.1.whole ∧ I64 p.2.whole ∧ (p.2.flags ≠ 0 → p.2.whole = p.1.whole) ∧ (p.2.flags = 0 → sumI (playW zeroSt xs) i + p.2.whole = p.1.whole) ∧
      ((p.2.flags = 4) ↔ ∃ j q, i = j + 1 ∧ (playW zeroSt xs)[j]? = some q ∧ p.1.start = q.1.start ∧ p.1.mono = true ∧ p.1.whole < q.1.whole) := by
  obtain ⟨hm, s', h1, h2, h3, h4⟩ := playW_at xs zeroSt i p h
  have hs : I64 s'.whole := by
    cases i with
    | zero => rw [h3 rfl]; unfold I64 zeroSt; decide
    | succ j =>
      obtain ⟨q, hq, rfl⟩ := h4 j rfl
      exact hx _ (playW_at xs zeroSt j q hq).1
  obtain ⟨a1, a2, a3⟩ := outW_sum (hx _ hm) hs h1
  rw [← h2] at a1 a2 a3
  refine ⟨hx _ hm, a3, fun hf => ?_, fun hf => ?_, ?_⟩
  · rcases a1 with a | a
    · exact a.2
    · exact absurd a.1 hf
  · rcases a1 with a | a
    · exact absurd hf a.1
    · cases i with
      | zero => rw [h3 rfl] at a; exact absurd a.2.1 (by unfold zeroSt; decide)
      | succ j =>
        obtain ⟨q, hq, rfl⟩ := h4 j rfl
        have : sumI (playW zeroSt xs) (j + 1) = q.1.whole := by unfold sumI; rw [if_neg (by omega), Nat.add_sub_cancel, hq]
        rw [this]; exact a.2.2
  · constructor
    · intro hf
      have b := a2.1 hf
      cases i with
      | zero => rw [h3 rfl] at b; exact absurd b.1 (by unfold zeroSt; decide)
      | succ j =>
        obtain ⟨q, hq, rfl⟩ := h4 j rfl
        exact ⟨j, q, rfl, hq, b.2.1, b.2.2.1, b.2.2.2⟩
    · rintro ⟨j, q, e, hq, b1, b2, b3⟩
      obtain ⟨q', hq', e'⟩ := h4 j e
      rw [hq] at hq'
      injection hq' with hq'
      subst hq'
      rw [e'] at a2
      exact a2.2 ⟨rfl, b1, b2, b3⟩
theorem sumI_succ {PW : List (Pnt × Pnt)} {i : Nat} {p : Pnt × Pnt} (h : PW[i]? = some p) : sumI PW (i + 1) = p.1.whole := by
  unfold sumI
  rw [if_neg (by omega), Nat.add_sub_cancel, h]
/-- A made row of points, read. -/
theorem MineG.pts {W w : World} {v : Value} {L : List PtV} (h : MineT W w v L) : ∃ a c, v = .slice a L.length c ∧ GAt cellsPt 17 w a L := by
  obtain ⟨a, c, rfl⟩ := h.slice
  exact ⟨a, c, rfl, h.at_ cfPt⟩
set_option maxHeartbeats 16000000 in
set_option maxRecDepth 100000 in
theorem todeltaSums_walk (aa : Option Addr) (c : Nat) (L : List PtV) (most : Int) (W : World) (hl : PtsIn W aa L) (hll : L.length ≤ 9223372036854775807) (_ : -9223372036854775808 ≤ most ∧ most ≤ 9223372036854775807) :
    Calls Try.prog 4 #[.slice aa L.length c, .int .i64 most] W fun e w' => e = .returned (.bool true) ∧ Kept (fun _ => False) W w' := by
  have HAW := Lib.hid (awake15_any W)
  have HON := Lib.hid (fun w (k : Kept (fun _ => False) W w) => one_any aa c L w (hl.on k))
  obtain ⟨n, hn⟩ : ∃ n, n = L.length := ⟨_, rfl⟩
  obtain ⟨ob, hob⟩ : ∃ b, b = oneB L := ⟨_, rfl⟩
  rw [← hob] at HON
  rw [← hn] at HON ⊢
  cases ob with
  | false =>
    clear hob hn hl hll
    go_enter Try.func4, Try.ntmps4
    go_wp2_with fail
    refine HAW.out.mono ?_
    rintro e w1 ⟨rfl, k1⟩
    have HK1 := Lib.hid k1
    clear k1
    go_wp2_with fail
    refine (HON.out w1 HK1.out).mono ?_
    rintro e w2 ⟨rfl, k2⟩
    have HK2 := Lib.hid (HK1.out.trans k2)
    clear k2
    go_wp2
    go_ret
    exact ⟨rfl, HK2.out⟩
  | true =>
    rcases Nat.eq_zero_or_pos n with h0 | h0
    · have qn : ((n : Int) == 0) = true := by rw [beq_iff_eq]; omega
      clear hob hn hl hll h0
      go_enter Try.func4, Try.ntmps4
      go_wp2_with fail
      refine HAW.out.mono ?_
      rintro e w1 ⟨rfl, k1⟩
      have HK1 := Lib.hid k1
      clear k1
      go_wp2_with fail
      refine (HON.out w1 HK1.out).mono ?_
      rintro e w2 ⟨rfl, k2⟩
      have HK2 := Lib.hid (HK1.out.trans k2)
      clear k2
      go_wp2
      go_ret
      exact ⟨rfl, HK2.out⟩
    have qn : ((n : Int) == 0) = false := by rw [beq_eq_false_iff_ne]; omega
    have hn0 : 0 < n := h0
    have hL0 : 0 < L.length := by omega
    obtain ⟨gb, ofs, rfl, hrec⟩ := hl.at_ hL0
    have hz := List.getElem?_eq_getElem hL0
    obtain ⟨z, hzz⟩ : ∃ p, p = L[0] := ⟨_, rfl⟩
    rw [← hzz] at hz
    have c2 := hrec 0 z hz 2 (.int .i64 z.x.kind) rfl
    rw [Nat.zero_mul, Nat.add_zero] at c2
    have HC2 : Hid (∀ w, Kept (fun _ => False) W w → w.cell? ⟨gb, ofs + 2, none⟩ = some (.int .i64 z.x.kind)) := Lib.hid (fun w k => k.cell c2 (fun x => x))
    by_cases hk1 : z.x.kind = 1
    case neg =>
      have qk : (z.x.kind != 1) = true := by rw [bne_iff_ne]; exact hk1
      clear hob hn hl hll h0 hL0 hrec hz hzz c2 hk1
      go_enter Try.func4, Try.ntmps4
      go_wp2_with fail
      refine HAW.out.mono ?_
      rintro e w1 ⟨rfl, k1⟩
      have HK1 := Lib.hid k1
      clear k1
      go_wp2_with fail
      refine (HON.out w1 HK1.out).mono ?_
      rintro e w2 ⟨rfl, k2⟩
      have HK2 := Lib.hid (HK1.out.trans k2)
      clear k2
      have x2 := HC2.out w2 HK2.out
      go_wp2
      go_ret
      exact ⟨rfl, HK2.out⟩
    have qk : (z.x.kind != 1) = false := by rw [hk1]; rfl
    have hone := hob.symm
    unfold oneB someB at hone
    simp only [Bool.and_eq_true, decide_eq_true_eq, List.all_eq_true] at hone
    have hli : ∀ p ∈ L, p.x.light ∧ p.x.kind = 1 := fun p hp => ⟨lightP_of (hone.1.2 p hp), by have := hone.2 p hp; unfold alikeB at this; rw [hz] at this; simp only [Bool.and_eq_true, beq_iff_eq] at this; rw [this.1]; exact hk1⟩
    have HPL := Lib.hid (fun w (k : Kept (fun _ => False) W w) => play_any (some ⟨gb, ofs, none⟩) c L most w (hl.on k) hli hone.1.1)
    rw [← hn] at HPL
    have hwh : ∀ x ∈ L.map PtV.x, I64 x.whole := fun x hx => by obtain ⟨p, hp, rfl⟩ := List.mem_map.1 hx; exact (hl.each p hp).2.1.whole
    have HSA := Lib.hid (fun i p (h : (playW zeroSt (L.map PtV.x))[i]? = some p) => sums_at hwh h)
    have hpl := playW_len (L.map PtV.x) zeroSt
    rw [List.length_map] at hpl
    obtain ⟨PW, hPW⟩ : ∃ l, l = playW zeroSt (L.map PtV.x) := ⟨_, rfl⟩
    rw [← hPW] at HSA hpl
    have HPW := Lib.hid hPW
    have HSI : Hid (∀ i, I64 (sumI PW i)) := Lib.hid (fun i => by
      unfold sumI
      split
      · unfold I64; omega
      · split
        · rename_i q hq; exact (HSA.out _ q hq).1
        · unfold I64; omega)
    have HM : Hid (PW.length ≤ 20) := Lib.hid (by have := hone.1.1; omega)
    clear hob hn hl hll h0 hL0 hrec hz hzz c2 hk1 hone hli hwh hPW hpl
    go_enter Try.func4, Try.ntmps4
    go_wp2_with fail
    refine HAW.out.mono ?_
    rintro e w1 ⟨rfl, k1⟩
    have HK1 := Lib.hid k1
    clear k1
    go_wp2_with fail
    refine (HON.out w1 HK1.out).mono ?_
    rintro e w2 ⟨rfl, k2⟩
    have HK2 := Lib.hid (HK1.out.trans k2)
    clear k2
    have x2 := HC2.out w2 HK2.out
    go_upto_region 5 with fail
    clear x2
    go_wp2_with fail
    refine (HPL.out w2 HK2.out).mono ?_
    rintro e w3 ⟨vi, vo, NS, I, O, rfl, ⟨s9, tp, tn, hst, hos⟩, hI, hO, hIx, hOx⟩
    rw [← HPW.out] at hIx hOx
    obtain ⟨ai, ci, rfl, hIa⟩ := MineG.pts hI
    obtain ⟨ao, co, rfl, hOa⟩ := MineG.pts hO
    have HIS : Hid ((Try.prog.info? 32).map (·.size) = some NS.size ∧ (#[.bool false, .int .i64 0, .int .i64 0, .int .i64 0, .int .u64 0, .int .u64 0, .int .i64 0, .int .u64 0, .int .i64 0, .slice none 0 0, .int .i64 0, .slice none 0 0] : Array Value).size = NS.size ∧ NS.all (·.oneCell') = true) := Lib.hid (by rw [hst]; exact ⟨state_info, rfl, stC_one hos⟩)
    clear hst hos
    have hil : I.length = PW.length := by have := congrArg List.length hIx; simpa using this
    have hol : O.length = PW.length := by have := congrArg List.length hOx; simpa using this
    have HK3 := Lib.hid (HK2.out.trans hI.kept)
    have HIC : Hid (∀ w, Kept (fun _ => False) w3 w → 0 < PW.length → ∃ g o, ai = some ⟨g, o, none⟩) := Lib.hid (fun w k h => by obtain ⟨g, o, e, _⟩ := hIa (by omega); exact ⟨g, o, e⟩)
    have HOC : Hid (∀ w, Kept (fun _ => False) w3 w → 0 < PW.length → ∃ g o, ao = some ⟨g, o, none⟩) := Lib.hid (fun w k h => by obtain ⟨g, o, e, _⟩ := hOa (by omega); exact ⟨g, o, e⟩)
    have HIR : Hid (∀ w, Kept (fun _ => False) w3 w → ∀ g o i p, ai = some ⟨g, o, none⟩ → PW[i]? = some p → w.cell? ⟨g, o + i * 17 + 4, none⟩ = some (.bool p.1.mono) ∧ w.cell? ⟨g, o + i * 17 + 5, none⟩ = some (.int .i64 p.1.start) ∧ w.cell? ⟨g, o + i * 17 + 7, none⟩ = some (.int .i64 p.1.whole)) := Lib.hid (fun w k g o i p e hp => by
      have hi : i < I.length := by rw [hil]; exact (List.getElem?_eq_some_iff.1 hp).1
      obtain ⟨g', o', e', hr⟩ := hIa (by omega)
      rw [e] at e'
      injection e' with e'
      injection e' with e1 e2 _
      subst e1 e2
      have hp' := List.getElem?_eq_getElem hi
      have hx : (I[i]).x = p.1 := by have := congrArg (fun l => l[i]?) hIx; simp only [List.getElem?_map, hp', hp, Option.map_some, Option.some.injEq] at this; exact this
      rw [← hx]
      exact ⟨k.cell (hr i _ hp' 4 _ rfl) (fun x => x), k.cell (hr i _ hp' 5 _ rfl) (fun x => x), k.cell (hr i _ hp' 7 _ rfl) (fun x => x)⟩)
    have HOR : Hid (∀ w, Kept (fun _ => False) w3 w → ∀ g o i p, ao = some ⟨g, o, none⟩ → PW[i]? = some p → w.cell? ⟨g, o + i * 17 + 16, none⟩ = some (.int .i64 p.2.flags) ∧ w.cell? ⟨g, o + i * 17 + 7, none⟩ = some (.int .i64 p.2.whole)) := Lib.hid (fun w k g o i p e hp => by
      have hi : i < O.length := by rw [hol]; exact (List.getElem?_eq_some_iff.1 hp).1
      obtain ⟨g', o', e', hr⟩ := hOa (by omega)
      rw [e] at e'
      injection e' with e'
      injection e' with e1 e2 _
      subst e1 e2
      have hp' := List.getElem?_eq_getElem hi
      have hx : (O[i]).x = p.2 := by have := congrArg (fun l => l[i]?) hOx; simp only [List.getElem?_map, hp', hp, Option.map_some, Option.some.injEq] at this; exact this
      rw [← hx]
      exact ⟨k.cell (hr i _ hp' 16 _ rfl) (fun x => x), k.cell (hr i _ hp' 7 _ rfl) (fun x => x)⟩)
    rw [hil, hol]
    obtain ⟨m, hm⟩ : ∃ m, m = PW.length := ⟨_, rfl⟩
    rw [← hm] at HM HIC HOC
    rw [← hm]
    have HME := Lib.hid hm
    have hKI := hI.kept
    have HWI := Lib.hid hKI
    clear hI hO hIx hOx hIa hOa hil hol hm HON HPL HAW hKI
    go_upto_region 6 with (refine wpList_store_box rfl 32 (.tmp 7) _ rfl w3 _ NS 32 rfl rfl rfl HIS.out.1 HIS.out.2.1 HIS.out.2.2 ?_; intro w4 hb4 k4; have HK4 := Lib.hid k4; clear hb4 k4)
    go_wp2
    go_loopg [8, 9] m (fun g s8 s9 wr => ∃ i : Nat, i ≤ m ∧ g = m - i ∧ s9 = .int .i64 i ∧ s8 = .int .i64 (sumI PW i) ∧ Kept (fun _ => False) w3 wr)
    case atStart => exact ⟨0, Nat.zero_le _, rfl, rfl, rfl, HK4.out⟩
    case round =>
      obtain ⟨i, hin, rfl, rfl, rfl, k3r⟩ := hrel
      have HKW := Lib.hid (HK3.out.trans k3r)
      have HKR := Lib.hid k3r
      clear k3r
      by_cases hd : i < m
      · have hdi : (i : Int) < (m : Int) := by omega
        have hi0' : (0 : Int) ≤ (i : Int) := by omega
        have HD := Lib.hid hd
        have wi : IntKind.i64.wrap ((i : Int) + 1) = ((i + 1 : Nat) : Int) := by rw [IntWalk.i64_in _ ⟨by omega, by have := HM.out; omega⟩]; omega
        have hiP : i < PW.length := by have := HME.out; omega
        have hp := List.getElem?_eq_getElem hiP
        obtain ⟨p, hpp⟩ : ∃ p, p = PW[i] := ⟨_, rfl⟩
        rw [← hpp] at hp
        obtain ⟨gi, oi, rfl⟩ := HIC.out wr HKR.out (by omega)
        obtain ⟨go, oo, rfl⟩ := HOC.out wr HKR.out (by omega)
        obtain ⟨b1, b2, b3, b4, b5⟩ := HSA.out i p hp
        have HP := Lib.hid hp
        obtain ⟨r4, r5, r7⟩ := HIR.out wr HKR.out gi oi i p rfl hp
        obtain ⟨t16, t7⟩ := HOR.out wr HKR.out go oo i p rfl hp
        obtain ⟨S0, hS0⟩ : ∃ s, s = sumI PW i := ⟨_, rfl⟩
        obtain ⟨x1, hx1⟩ : ∃ s, s = p.1.whole := ⟨_, rfl⟩
        obtain ⟨y1, hy1⟩ : ∃ s, s = p.2.whole := ⟨_, rfl⟩
        obtain ⟨fl, hfl⟩ : ∃ s, s = p.2.flags := ⟨_, rfl⟩
        rw [← hS0]
        rw [← hx1] at b1 b3 b4 b5 r7
        rw [← hy1] at b2 b3 b4 t7
        rw [← hfl] at b3 b4 b5 t16
        rw [← hS0] at b4
        have HWD := Lib.hid (fun w (s : Int) (h : I64 s) (h2 : s + y1 = x1) => wide_no s y1 h b2 (by rw [h2]; exact b1) w)
        have HW0 : Hid (∀ w, Calls Try.prog 15 #[.int .i64 (if fl = 0 then S0 else 0), .int .i64 y1, .bool false] w fun e w' => e = .returned (.bool false) ∧ w = w') := Lib.hid (fun w => by
          split
          · rename_i h
            exact HWD.out w S0 (by rw [hS0]; exact HSI.out i) (b4 h)
          · rename_i h
            exact HWD.out w 0 (by unfold I64; omega) (by rw [b3 h]; omega))
        have wz : IntKind.i64.wrap ((if fl = 0 then S0 else 0) + y1) = x1 := by
          have : (if fl = 0 then S0 else 0) + y1 = x1 := by
            split
            · rename_i h; exact b4 h
            · rename_i h; rw [b3 h]; omega
          rw [this]; exact IntWalk.i64_in _ b1
        have HSX : Hid (sumI PW (i + 1) = x1) := Lib.hid (by rw [sumI_succ hp, hx1])
        have HB5 := Lib.hid b5
        have qx : (x1 != x1) = false := by simp
        have hcase : i = 0 ∨ ∃ j, i = j + 1 := by cases i with | zero => exact Or.inl rfl | succ j => exact Or.inr ⟨j, rfl⟩
        rcases hcase with hi0 | ⟨j, hij⟩
        · have q4 : (fl == 4) = false := by rw [beq_eq_false_iff_ne]; intro e; obtain ⟨j, q, e2, _⟩ := b5.1 e; omega
          have qi : ¬ 0 < i := by omega
          by_cases hf : fl = 0
          · clear hd hin hiP hpp hp hS0 hx1 hy1 hfl b1 b2 b3 b4 b5 hi0 q4
            subst hf
            have q1 : True := trivial
            clear q1
            rw [if_pos rfl] at HW0 wz
            go_wp2_with fail
            refine (HW0.out _).mono ?_
            rintro e wq ⟨rfl, rfl⟩
            go_upto_region 17 with fail
            have HS0 : Hid ((fun w' => w'.cell? ⟨go, oo + i * 17 + 16, none⟩ = some (.int .i64 0)) wr.drew) := Lib.hid t16
            refine AnyBut.start (S := fun w' => w'.cell? ⟨go, oo + i * 17 + 16, none⟩ = some (.int .i64 0)) (k := 44) (by kernel_rfl) ?_
            refine AnyBut.takeS (i := 0) (v := ?v1) rfl (by kernel_rfl) (Nat.le_of_eq (by kernel_rfl)) (by kernel_rfl) (by kernel_rfl) (fun _ _ _ h => h) (HS0.out) (Or.inl ⟨by kernel_rfl, ?hy1⟩) ?r1
            case hy1 =>
              intro w hSw
              try dsimp only at hSw
              go_simp
              first | (have y0 := hSw; go_simp) | skip
              try with_reducible rfl
            try simp only [Act.put, List.getElem_toArray, List.getElem_cons_zero, List.setIfInBounds_toArray, List.set_cons_zero, List.set_cons_succ]
            refine AnyBut.takeS (i := 1) (v := ?v2) rfl (by kernel_rfl) (Nat.le_of_eq (by kernel_rfl)) (by kernel_rfl) (by kernel_rfl) (fun _ _ _ h => h) (HS0.out) (Or.inl ⟨by kernel_rfl, ?hy2⟩) ?r2
            case hy2 =>
              intro w hSw
              try dsimp only at hSw
              go_simp
              first | (have y0 := hSw; go_simp) | skip
              try with_reducible rfl
            try simp only [Act.put, List.getElem_toArray, List.getElem_cons_succ, List.getElem_cons_zero, List.setIfInBounds_toArray, List.set_cons_zero, List.set_cons_succ]
            refine AnyBut.takeS (i := 2) (v := ?v3) rfl (by kernel_rfl) (Nat.le_of_eq (by kernel_rfl)) (by kernel_rfl) (by kernel_rfl) (fun _ _ _ h => h) (HS0.out) (Or.inl ⟨by kernel_rfl, ?hy3⟩) ?r3
            case hy3 =>
              intro w hSw
              try dsimp only at hSw
              go_simp
              first | (have y0 := hSw; go_simp) | skip
              try with_reducible rfl
            try simp only [Act.put, List.getElem_toArray, List.getElem_cons_succ, List.getElem_cons_zero, List.setIfInBounds_toArray, List.set_cons_zero, List.set_cons_succ]
            refine AnyBut.takeS (i := 3) (v := ?v4) rfl (by kernel_rfl) (Nat.le_of_eq (by kernel_rfl)) (by kernel_rfl) (by kernel_rfl) (fun _ _ _ h => h) (HS0.out) (Or.inl ⟨by kernel_rfl, ?hy4⟩) ?r4
            case hy4 =>
              intro w hSw
              try dsimp only at hSw
              go_simp
              first | (have y0 := hSw; go_simp) | skip
              try with_reducible rfl
            try simp only [Act.put, List.getElem_toArray, List.getElem_cons_succ, List.getElem_cons_zero, List.setIfInBounds_toArray, List.set_cons_zero, List.set_cons_succ]
            refine AnyBut.takeS (i := 4) (v := ?v5) rfl (by kernel_rfl) (Nat.le_of_eq (by kernel_rfl)) (by kernel_rfl) (by kernel_rfl) (fun _ _ _ h => h) (HS0.out) (Or.inl ⟨by kernel_rfl, ?hy5⟩) ?r5
            case hy5 =>
              intro w hSw
              try dsimp only at hSw
              go_simp
              first | (have y0 := hSw; go_simp) | skip
              try with_reducible rfl
            try simp only [Act.put, List.getElem_toArray, List.getElem_cons_succ, List.getElem_cons_zero, List.setIfInBounds_toArray, List.set_cons_zero, List.set_cons_succ]
            refine AnyBut.takeS (i := 5) (v := ?v6) rfl (by kernel_rfl) (Nat.le_of_eq (by kernel_rfl)) (by kernel_rfl) (by kernel_rfl) (fun _ _ _ h => h) (HS0.out) (Or.inl ⟨by kernel_rfl, ?hy6⟩) ?r6
            case hy6 =>
              intro w hSw
              try dsimp only at hSw
              go_simp
              first | (have y0 := hSw; go_simp) | skip
              try with_reducible rfl
            try simp only [Act.put, List.getElem_toArray, List.getElem_cons_succ, List.getElem_cons_zero, List.setIfInBounds_toArray, List.set_cons_zero, List.set_cons_succ]
            refine AnyBut.takeS (i := 6) (v := ?v7) rfl (by kernel_rfl) (Nat.le_of_eq (by kernel_rfl)) (by kernel_rfl) (by kernel_rfl) (fun _ _ _ h => h) (HS0.out) (Or.inl ⟨by kernel_rfl, ?hy7⟩) ?r7
            case hy7 =>
              intro w hSw
              try dsimp only at hSw
              go_simp
              first | (have y0 := hSw; go_simp) | skip
              try with_reducible rfl
            try simp only [Act.put, List.getElem_toArray, List.getElem_cons_succ, List.getElem_cons_zero, List.setIfInBounds_toArray, List.set_cons_zero, List.set_cons_succ]
            refine AnyBut.takeS (i := 7) (v := ?v8) rfl (by kernel_rfl) (Nat.le_of_eq (by kernel_rfl)) (by kernel_rfl) (by kernel_rfl) (fun _ _ _ h => h) (HS0.out) (Or.inl ⟨by kernel_rfl, ?hy8⟩) ?r8
            case hy8 =>
              intro w hSw
              try dsimp only at hSw
              go_simp
              first | (have y0 := hSw; go_simp) | skip
              try with_reducible rfl
            try simp only [Act.put, List.getElem_toArray, List.getElem_cons_succ, List.getElem_cons_zero, List.setIfInBounds_toArray, List.set_cons_zero, List.set_cons_succ]
            refine AnyBut.takeS (i := 8) (v := ?v9) rfl (by kernel_rfl) (Nat.le_of_eq (by kernel_rfl)) (by kernel_rfl) (by kernel_rfl) (fun _ _ _ h => h) (HS0.out) (Or.inl ⟨by kernel_rfl, ?hy9⟩) ?r9
            case hy9 =>
              intro w hSw
              try dsimp only at hSw
              go_simp
              first | (have y0 := hSw; go_simp) | skip
              try with_reducible rfl
            try simp only [Act.put, List.getElem_toArray, List.getElem_cons_succ, List.getElem_cons_zero, List.setIfInBounds_toArray, List.set_cons_zero, List.set_cons_succ]
            refine AnyBut.takeS (i := 9) (v := undef) rfl (by kernel_rfl) (Nat.le_of_eq (by kernel_rfl)) (by kernel_rfl) (by kernel_rfl) (fun _ _ _ h => h) (HS0.out) (Or.inr ⟨by kernel_rfl, rfl⟩) ?r10
            try simp only [Act.put, List.getElem_toArray, List.getElem_cons_succ, List.getElem_cons_zero, List.setIfInBounds_toArray, List.set_cons_zero, List.set_cons_succ]
            refine AnyBut.takeS (i := 10) (v := undef) rfl (by kernel_rfl) (Nat.le_of_eq (by kernel_rfl)) (by kernel_rfl) (by kernel_rfl) (fun _ _ _ h => h) (HS0.out) (Or.inr ⟨by kernel_rfl, rfl⟩) ?r11
            try simp only [Act.put, List.getElem_toArray, List.getElem_cons_succ, List.getElem_cons_zero, List.setIfInBounds_toArray, List.set_cons_zero, List.set_cons_succ]
            refine AnyBut.takeS (i := 11) (v := undef) rfl (by kernel_rfl) (Nat.le_of_eq (by kernel_rfl)) (by kernel_rfl) (by kernel_rfl) (fun _ _ _ h => h) (HS0.out) (Or.inr ⟨by kernel_rfl, rfl⟩) ?r12
            try simp only [Act.put, List.getElem_toArray, List.getElem_cons_succ, List.getElem_cons_zero, List.setIfInBounds_toArray, List.set_cons_zero, List.set_cons_succ]
            refine AnyBut.takeS (i := 12) (v := undef) rfl (by kernel_rfl) (Nat.le_of_eq (by kernel_rfl)) (by kernel_rfl) (by kernel_rfl) (fun _ _ _ h => h) (HS0.out) (Or.inr ⟨by kernel_rfl, rfl⟩) ?r13
            try simp only [Act.put, List.getElem_toArray, List.getElem_cons_succ, List.getElem_cons_zero, List.setIfInBounds_toArray, List.set_cons_zero, List.set_cons_succ]
            refine AnyBut.takeS (i := 13) (v := undef) rfl (by kernel_rfl) (Nat.le_of_eq (by kernel_rfl)) (by kernel_rfl) (by kernel_rfl) (fun _ _ _ h => h) (HS0.out) (Or.inr ⟨by kernel_rfl, rfl⟩) ?r14
            try simp only [Act.put, List.getElem_toArray, List.getElem_cons_succ, List.getElem_cons_zero, List.setIfInBounds_toArray, List.set_cons_zero, List.set_cons_succ]
            refine AnyBut.takeS (i := 14) (v := undef) rfl (by kernel_rfl) (Nat.le_of_eq (by kernel_rfl)) (by kernel_rfl) (by kernel_rfl) (fun _ _ _ h => h) (HS0.out) (Or.inr ⟨by kernel_rfl, rfl⟩) ?r15
            try simp only [Act.put, List.getElem_toArray, List.getElem_cons_succ, List.getElem_cons_zero, List.setIfInBounds_toArray, List.set_cons_zero, List.set_cons_succ]
            refine AnyBut.takeS (i := 15) (v := undef) rfl (by kernel_rfl) (Nat.le_of_eq (by kernel_rfl)) (by kernel_rfl) (by kernel_rfl) (fun _ _ _ h => h) (HS0.out) (Or.inr ⟨by kernel_rfl, rfl⟩) ?r16
            try simp only [Act.put, List.getElem_toArray, List.getElem_cons_succ, List.getElem_cons_zero, List.setIfInBounds_toArray, List.set_cons_zero, List.set_cons_succ]
            refine AnyBut.takeS (i := 16) (v := undef) rfl (by kernel_rfl) (Nat.le_of_eq (by kernel_rfl)) (by kernel_rfl) (by kernel_rfl) (fun _ _ _ h => h) (HS0.out) (Or.inr ⟨by kernel_rfl, rfl⟩) ?r17
            try simp only [Act.put, List.getElem_toArray, List.getElem_cons_succ, List.getElem_cons_zero, List.setIfInBounds_toArray, List.set_cons_zero, List.set_cons_succ]
            refine AnyBut.takeS (i := 17) (v := undef) rfl (by kernel_rfl) (Nat.le_of_eq (by kernel_rfl)) (by kernel_rfl) (by kernel_rfl) (fun _ _ _ h => h) (HS0.out) (Or.inr ⟨by kernel_rfl, rfl⟩) ?r18
            try simp only [Act.put, List.getElem_toArray, List.getElem_cons_succ, List.getElem_cons_zero, List.setIfInBounds_toArray, List.set_cons_zero, List.set_cons_succ]
            refine AnyBut.takeS (i := 18) (v := undef) rfl (by kernel_rfl) (Nat.le_of_eq (by kernel_rfl)) (by kernel_rfl) (by kernel_rfl) (fun _ _ _ h => h) (HS0.out) (Or.inr ⟨by kernel_rfl, rfl⟩) ?r19
            try simp only [Act.put, List.getElem_toArray, List.getElem_cons_succ, List.getElem_cons_zero, List.setIfInBounds_toArray, List.set_cons_zero, List.set_cons_succ]
            refine AnyBut.takeS (i := 19) (v := undef) rfl (by kernel_rfl) (Nat.le_of_eq (by kernel_rfl)) (by kernel_rfl) (by kernel_rfl) (fun _ _ _ h => h) (HS0.out) (Or.inr ⟨by kernel_rfl, rfl⟩) ?r20
            try simp only [Act.put, List.getElem_toArray, List.getElem_cons_succ, List.getElem_cons_zero, List.setIfInBounds_toArray, List.set_cons_zero, List.set_cons_succ]
            refine AnyBut.takeS (i := 20) (v := undef) rfl (by kernel_rfl) (Nat.le_of_eq (by kernel_rfl)) (by kernel_rfl) (by kernel_rfl) (fun _ _ _ h => h) (HS0.out) (Or.inr ⟨by kernel_rfl, rfl⟩) ?r21
            try simp only [Act.put, List.getElem_toArray, List.getElem_cons_succ, List.getElem_cons_zero, List.setIfInBounds_toArray, List.set_cons_zero, List.set_cons_succ]
            refine AnyBut.takeS (i := 21) (v := ?v22) rfl (by kernel_rfl) (Nat.le_of_eq (by kernel_rfl)) (by kernel_rfl) (by kernel_rfl) (fun _ _ _ h => h) (HS0.out) (Or.inl ⟨by kernel_rfl, ?hy22⟩) ?r22
            case hy22 =>
              intro w hSw
              try dsimp only at hSw
              go_simp
              first | (have y0 := hSw; go_simp) | skip
              try with_reducible rfl
            try simp only [Act.put, List.getElem_toArray, List.getElem_cons_succ, List.getElem_cons_zero, List.setIfInBounds_toArray, List.set_cons_zero, List.set_cons_succ]
            refine AnyBut.takeS (i := 22) (v := ?v23) rfl (by kernel_rfl) (Nat.le_of_eq (by kernel_rfl)) (by kernel_rfl) (by kernel_rfl) (fun _ _ _ h => h) (HS0.out) (Or.inl ⟨by kernel_rfl, ?hy23⟩) ?r23
            case hy23 =>
              intro w hSw
              try dsimp only at hSw
              go_simp
              first | (have y0 := hSw; go_simp) | skip
              try with_reducible rfl
            try simp only [Act.put, List.getElem_toArray, List.getElem_cons_succ, List.getElem_cons_zero, List.setIfInBounds_toArray, List.set_cons_zero, List.set_cons_succ]
            refine AnyBut.takeS (i := 23) (v := undef) rfl (by kernel_rfl) (Nat.le_of_eq (by kernel_rfl)) (by kernel_rfl) (by kernel_rfl) (fun _ _ _ h => h) (HS0.out) (Or.inr ⟨by kernel_rfl, rfl⟩) ?r24
            try simp only [Act.put, List.getElem_toArray, List.getElem_cons_succ, List.getElem_cons_zero, List.setIfInBounds_toArray, List.set_cons_zero, List.set_cons_succ]
            refine AnyBut.takeS (i := 24) (v := undef) rfl (by kernel_rfl) (Nat.le_of_eq (by kernel_rfl)) (by kernel_rfl) (by kernel_rfl) (fun _ _ _ h => h) (HS0.out) (Or.inr ⟨by kernel_rfl, rfl⟩) ?r25
            try simp only [Act.put, List.getElem_toArray, List.getElem_cons_succ, List.getElem_cons_zero, List.setIfInBounds_toArray, List.set_cons_zero, List.set_cons_succ]
            refine AnyBut.takeS (i := 25) (v := undef) rfl (by kernel_rfl) (Nat.le_of_eq (by kernel_rfl)) (by kernel_rfl) (by kernel_rfl) (fun _ _ _ h => h) (HS0.out) (Or.inr ⟨by kernel_rfl, rfl⟩) ?r26
            try simp only [Act.put, List.getElem_toArray, List.getElem_cons_succ, List.getElem_cons_zero, List.setIfInBounds_toArray, List.set_cons_zero, List.set_cons_succ]
            refine AnyBut.takeS (i := 26) (v := undef) rfl (by kernel_rfl) (Nat.le_of_eq (by kernel_rfl)) (by kernel_rfl) (by kernel_rfl) (fun _ _ _ h => h) (HS0.out) (Or.inr ⟨by kernel_rfl, rfl⟩) ?r27
            try simp only [Act.put, List.getElem_toArray, List.getElem_cons_succ, List.getElem_cons_zero, List.setIfInBounds_toArray, List.set_cons_zero, List.set_cons_succ]
            refine AnyBut.takeS (i := 27) (v := undef) rfl (by kernel_rfl) (Nat.le_of_eq (by kernel_rfl)) (by kernel_rfl) (by kernel_rfl) (fun _ _ _ h => h) (HS0.out) (Or.inr ⟨by kernel_rfl, rfl⟩) ?r28
            try simp only [Act.put, List.getElem_toArray, List.getElem_cons_succ, List.getElem_cons_zero, List.setIfInBounds_toArray, List.set_cons_zero, List.set_cons_succ]
            refine AnyBut.takeS (i := 28) (v := ?v29) rfl (by kernel_rfl) (Nat.le_of_eq (by kernel_rfl)) (by kernel_rfl) (by kernel_rfl) (fun _ _ _ h => h) (HS0.out) (Or.inl ⟨by kernel_rfl, ?hy29⟩) ?r29
            case hy29 =>
              intro w hSw
              try dsimp only at hSw
              go_simp
              first | (have y0 := hSw; go_simp) | skip
              try with_reducible rfl
            try simp only [Act.put, List.getElem_toArray, List.getElem_cons_succ, List.getElem_cons_zero, List.setIfInBounds_toArray, List.set_cons_zero, List.set_cons_succ]
            refine AnyBut.takeS (i := 29) (v := ?v30) rfl (by kernel_rfl) (Nat.le_of_eq (by kernel_rfl)) (by kernel_rfl) (by kernel_rfl) (fun _ _ _ h => h) (HS0.out) (Or.inl ⟨by kernel_rfl, ?hy30⟩) ?r30
            case hy30 =>
              intro w hSw
              try dsimp only at hSw
              go_simp
              first | (have y0 := hSw; go_simp) | skip
              try with_reducible rfl
            try simp only [Act.put, List.getElem_toArray, List.getElem_cons_succ, List.getElem_cons_zero, List.setIfInBounds_toArray, List.set_cons_zero, List.set_cons_succ]
            refine AnyBut.takeS (i := 30) (v := undef) rfl (by kernel_rfl) (Nat.le_of_eq (by kernel_rfl)) (by kernel_rfl) (by kernel_rfl) (fun _ _ _ h => h) (HS0.out) (Or.inr ⟨by kernel_rfl, rfl⟩) ?r31
            try simp only [Act.put, List.getElem_toArray, List.getElem_cons_succ, List.getElem_cons_zero, List.setIfInBounds_toArray, List.set_cons_zero, List.set_cons_succ]
            refine AnyBut.takeS (i := 31) (v := undef) rfl (by kernel_rfl) (Nat.le_of_eq (by kernel_rfl)) (by kernel_rfl) (by kernel_rfl) (fun _ _ _ h => h) (HS0.out) (Or.inr ⟨by kernel_rfl, rfl⟩) ?r32
            try simp only [Act.put, List.getElem_toArray, List.getElem_cons_succ, List.getElem_cons_zero, List.setIfInBounds_toArray, List.set_cons_zero, List.set_cons_succ]
            refine AnyBut.takeS (i := 32) (v := undef) rfl (by kernel_rfl) (Nat.le_of_eq (by kernel_rfl)) (by kernel_rfl) (by kernel_rfl) (fun _ _ _ h => h) (HS0.out) (Or.inr ⟨by kernel_rfl, rfl⟩) ?r33
            try simp only [Act.put, List.getElem_toArray, List.getElem_cons_succ, List.getElem_cons_zero, List.setIfInBounds_toArray, List.set_cons_zero, List.set_cons_succ]
            refine AnyBut.takeS (i := 33) (v := undef) rfl (by kernel_rfl) (Nat.le_of_eq (by kernel_rfl)) (by kernel_rfl) (by kernel_rfl) (fun _ _ _ h => h) (HS0.out) (Or.inr ⟨by kernel_rfl, rfl⟩) ?r34
            try simp only [Act.put, List.getElem_toArray, List.getElem_cons_succ, List.getElem_cons_zero, List.setIfInBounds_toArray, List.set_cons_zero, List.set_cons_succ]
            refine AnyBut.takeS (i := 34) (v := undef) rfl (by kernel_rfl) (Nat.le_of_eq (by kernel_rfl)) (by kernel_rfl) (by kernel_rfl) (fun _ _ _ h => h) (HS0.out) (Or.inr ⟨by kernel_rfl, rfl⟩) ?r35
            try simp only [Act.put, List.getElem_toArray, List.getElem_cons_succ, List.getElem_cons_zero, List.setIfInBounds_toArray, List.set_cons_zero, List.set_cons_succ]
            refine AnyBut.takeS (i := 35) (v := undef) rfl (by kernel_rfl) (Nat.le_of_eq (by kernel_rfl)) (by kernel_rfl) (by kernel_rfl) (fun _ _ _ h => h) (HS0.out) (Or.inr ⟨by kernel_rfl, rfl⟩) ?r36
            try simp only [Act.put, List.getElem_toArray, List.getElem_cons_succ, List.getElem_cons_zero, List.setIfInBounds_toArray, List.set_cons_zero, List.set_cons_succ]
            refine AnyBut.takeS (i := 36) (v := undef) rfl (by kernel_rfl) (Nat.le_of_eq (by kernel_rfl)) (by kernel_rfl) (by kernel_rfl) (fun _ _ _ h => h) (HS0.out) (Or.inr ⟨by kernel_rfl, rfl⟩) ?r37
            try simp only [Act.put, List.getElem_toArray, List.getElem_cons_succ, List.getElem_cons_zero, List.setIfInBounds_toArray, List.set_cons_zero, List.set_cons_succ]
            refine AnyBut.takeS (i := 37) (v := undef) rfl (by kernel_rfl) (Nat.le_of_eq (by kernel_rfl)) (by kernel_rfl) (by kernel_rfl) (fun _ _ _ h => h) (HS0.out) (Or.inr ⟨by kernel_rfl, rfl⟩) ?r38
            try simp only [Act.put, List.getElem_toArray, List.getElem_cons_succ, List.getElem_cons_zero, List.setIfInBounds_toArray, List.set_cons_zero, List.set_cons_succ]
            refine AnyBut.takeS (i := 38) (v := undef) rfl (by kernel_rfl) (Nat.le_of_eq (by kernel_rfl)) (by kernel_rfl) (by kernel_rfl) (fun _ _ _ h => h) (HS0.out) (Or.inr ⟨by kernel_rfl, rfl⟩) ?r39
            try simp only [Act.put, List.getElem_toArray, List.getElem_cons_succ, List.getElem_cons_zero, List.setIfInBounds_toArray, List.set_cons_zero, List.set_cons_succ]
            refine AnyBut.takeS (i := 39) (v := undef) rfl (by kernel_rfl) (Nat.le_of_eq (by kernel_rfl)) (by kernel_rfl) (by kernel_rfl) (fun _ _ _ h => h) (HS0.out) (Or.inr ⟨by kernel_rfl, rfl⟩) ?r40
            try simp only [Act.put, List.getElem_toArray, List.getElem_cons_succ, List.getElem_cons_zero, List.setIfInBounds_toArray, List.set_cons_zero, List.set_cons_succ]
            refine AnyBut.takeS (i := 40) (v := undef) rfl (by kernel_rfl) (Nat.le_of_eq (by kernel_rfl)) (by kernel_rfl) (by kernel_rfl) (fun _ _ _ h => h) (HS0.out) (Or.inr ⟨by kernel_rfl, rfl⟩) ?r41
            try simp only [Act.put, List.getElem_toArray, List.getElem_cons_succ, List.getElem_cons_zero, List.setIfInBounds_toArray, List.set_cons_zero, List.set_cons_succ]
            refine AnyBut.takeS (i := 41) (v := undef) rfl (by kernel_rfl) (Nat.le_of_eq (by kernel_rfl)) (by kernel_rfl) (by kernel_rfl) (fun _ _ _ h => h) (HS0.out) (Or.inr ⟨by kernel_rfl, rfl⟩) ?r42
            try simp only [Act.put, List.getElem_toArray, List.getElem_cons_succ, List.getElem_cons_zero, List.setIfInBounds_toArray, List.set_cons_zero, List.set_cons_succ]
            refine AnyBut.takeS (i := 42) (v := ?v43) rfl (by kernel_rfl) (Nat.le_of_eq (by kernel_rfl)) (by kernel_rfl) (by kernel_rfl) (fun _ _ _ h => h) (HS0.out) (Or.inl ⟨by kernel_rfl, ?hy43⟩) ?r43
            case hy43 =>
              intro w hSw
              try dsimp only at hSw
              go_simp
              first | (have y0 := hSw; go_simp) | skip
              try with_reducible rfl
            try simp only [Act.put, List.getElem_toArray, List.getElem_cons_succ, List.getElem_cons_zero, List.setIfInBounds_toArray, List.set_cons_zero, List.set_cons_succ]
            refine AnyBut.takeS (i := 43) (v := ?v44) rfl (by kernel_rfl) (Nat.le_of_eq (by kernel_rfl)) (by kernel_rfl) (by kernel_rfl) (fun _ _ _ h => h) (HS0.out) (Or.inl ⟨by kernel_rfl, ?hy44⟩) ?r44
            case hy44 =>
              intro w hSw
              try dsimp only at hSw
              go_simp
              first | (have y0 := hSw; go_simp) | skip
              try with_reducible rfl
            try simp only [Act.put, List.getElem_toArray, List.getElem_cons_succ, List.getElem_cons_zero, List.setIfInBounds_toArray, List.set_cons_zero, List.set_cons_succ]
            refine AnyBut.done (by kernel_rfl) ?_
            go_wp2
            go_roundg (m - (i + 1))
            case measure => have := HD.out; omega
            case rel => exact ⟨i + 1, HD.out, rfl, rfl, by rw [HSX.out], HKR.out.trans ((Kept.refl _ _).drew)⟩
          · have hf' : (fl == 0) = false := by rw [beq_eq_false_iff_ne]; exact hf
            clear hd hin hiP hpp hp hS0 hx1 hy1 hfl b1 b2 b3 b4 b5 hi0
            have q1 : (fl != 0) = true := by rw [bne_iff_ne]; exact hf
            rw [if_neg hf] at HW0 wz
            rw [Int.zero_add] at wz
            clear hf
            go_wp2_with fail
            refine (HW0.out _).mono ?_
            rintro e wq ⟨rfl, rfl⟩
            go_upto_region 17 with fail
            have HS0 : Hid ((fun w' => w'.cell? ⟨go, oo + i * 17 + 16, none⟩ = some (.int .i64 fl)) wr.drew) := Lib.hid t16
            refine AnyBut.start (S := fun w' => w'.cell? ⟨go, oo + i * 17 + 16, none⟩ = some (.int .i64 fl)) (k := 44) (by kernel_rfl) ?_
            refine AnyBut.takeS (i := 0) (v := ?v45) rfl (by kernel_rfl) (Nat.le_of_eq (by kernel_rfl)) (by kernel_rfl) (by kernel_rfl) (fun _ _ _ h => h) (HS0.out) (Or.inl ⟨by kernel_rfl, ?hy45⟩) ?r45
            case hy45 =>
              intro w hSw
              try dsimp only at hSw
              go_simp
              first | (have y0 := hSw; go_simp) | skip
              try with_reducible rfl
            try simp only [Act.put, List.getElem_toArray, List.getElem_cons_zero, List.setIfInBounds_toArray, List.set_cons_zero, List.set_cons_succ]
            refine AnyBut.takeS (i := 1) (v := ?v46) rfl (by kernel_rfl) (Nat.le_of_eq (by kernel_rfl)) (by kernel_rfl) (by kernel_rfl) (fun _ _ _ h => h) (HS0.out) (Or.inl ⟨by kernel_rfl, ?hy46⟩) ?r46
            case hy46 =>
              intro w hSw
              try dsimp only at hSw
              go_simp
              first | (have y0 := hSw; go_simp) | skip
              try with_reducible rfl
            try simp only [Act.put, List.getElem_toArray, List.getElem_cons_succ, List.getElem_cons_zero, List.setIfInBounds_toArray, List.set_cons_zero, List.set_cons_succ]
            refine AnyBut.takeS (i := 2) (v := ?v47) rfl (by kernel_rfl) (Nat.le_of_eq (by kernel_rfl)) (by kernel_rfl) (by kernel_rfl) (fun _ _ _ h => h) (HS0.out) (Or.inl ⟨by kernel_rfl, ?hy47⟩) ?r47
            case hy47 =>
              intro w hSw
              try dsimp only at hSw
              go_simp
              first | (have y0 := hSw; go_simp) | skip
              try with_reducible rfl
            try simp only [Act.put, List.getElem_toArray, List.getElem_cons_succ, List.getElem_cons_zero, List.setIfInBounds_toArray, List.set_cons_zero, List.set_cons_succ]
            refine AnyBut.takeS (i := 3) (v := ?v48) rfl (by kernel_rfl) (Nat.le_of_eq (by kernel_rfl)) (by kernel_rfl) (by kernel_rfl) (fun _ _ _ h => h) (HS0.out) (Or.inl ⟨by kernel_rfl, ?hy48⟩) ?r48
            case hy48 =>
              intro w hSw
              try dsimp only at hSw
              go_simp
              first | (have y0 := hSw; go_simp) | skip
              try with_reducible rfl
            try simp only [Act.put, List.getElem_toArray, List.getElem_cons_succ, List.getElem_cons_zero, List.setIfInBounds_toArray, List.set_cons_zero, List.set_cons_succ]
            refine AnyBut.takeS (i := 4) (v := ?v49) rfl (by kernel_rfl) (Nat.le_of_eq (by kernel_rfl)) (by kernel_rfl) (by kernel_rfl) (fun _ _ _ h => h) (HS0.out) (Or.inl ⟨by kernel_rfl, ?hy49⟩) ?r49
            case hy49 =>
              intro w hSw
              try dsimp only at hSw
              go_simp
              first | (have y0 := hSw; go_simp) | skip
              try with_reducible rfl
            try simp only [Act.put, List.getElem_toArray, List.getElem_cons_succ, List.getElem_cons_zero, List.setIfInBounds_toArray, List.set_cons_zero, List.set_cons_succ]
            refine AnyBut.takeS (i := 5) (v := ?v50) rfl (by kernel_rfl) (Nat.le_of_eq (by kernel_rfl)) (by kernel_rfl) (by kernel_rfl) (fun _ _ _ h => h) (HS0.out) (Or.inl ⟨by kernel_rfl, ?hy50⟩) ?r50
            case hy50 =>
              intro w hSw
              try dsimp only at hSw
              go_simp
              first | (have y0 := hSw; go_simp) | skip
              try with_reducible rfl
            try simp only [Act.put, List.getElem_toArray, List.getElem_cons_succ, List.getElem_cons_zero, List.setIfInBounds_toArray, List.set_cons_zero, List.set_cons_succ]
            refine AnyBut.takeS (i := 6) (v := ?v51) rfl (by kernel_rfl) (Nat.le_of_eq (by kernel_rfl)) (by kernel_rfl) (by kernel_rfl) (fun _ _ _ h => h) (HS0.out) (Or.inl ⟨by kernel_rfl, ?hy51⟩) ?r51
            case hy51 =>
              intro w hSw
              try dsimp only at hSw
              go_simp
              first | (have y0 := hSw; go_simp) | skip
              try with_reducible rfl
            try simp only [Act.put, List.getElem_toArray, List.getElem_cons_succ, List.getElem_cons_zero, List.setIfInBounds_toArray, List.set_cons_zero, List.set_cons_succ]
            refine AnyBut.takeS (i := 7) (v := ?v52) rfl (by kernel_rfl) (Nat.le_of_eq (by kernel_rfl)) (by kernel_rfl) (by kernel_rfl) (fun _ _ _ h => h) (HS0.out) (Or.inl ⟨by kernel_rfl, ?hy52⟩) ?r52
            case hy52 =>
              intro w hSw
              try dsimp only at hSw
              go_simp
              first | (have y0 := hSw; go_simp) | skip
              try with_reducible rfl
            try simp only [Act.put, List.getElem_toArray, List.getElem_cons_succ, List.getElem_cons_zero, List.setIfInBounds_toArray, List.set_cons_zero, List.set_cons_succ]
            refine AnyBut.takeS (i := 8) (v := ?v53) rfl (by kernel_rfl) (Nat.le_of_eq (by kernel_rfl)) (by kernel_rfl) (by kernel_rfl) (fun _ _ _ h => h) (HS0.out) (Or.inl ⟨by kernel_rfl, ?hy53⟩) ?r53
            case hy53 =>
              intro w hSw
              try dsimp only at hSw
              go_simp
              first | (have y0 := hSw; go_simp) | skip
              try with_reducible rfl
            try simp only [Act.put, List.getElem_toArray, List.getElem_cons_succ, List.getElem_cons_zero, List.setIfInBounds_toArray, List.set_cons_zero, List.set_cons_succ]
            refine AnyBut.takeS (i := 9) (v := undef) rfl (by kernel_rfl) (Nat.le_of_eq (by kernel_rfl)) (by kernel_rfl) (by kernel_rfl) (fun _ _ _ h => h) (HS0.out) (Or.inr ⟨by kernel_rfl, rfl⟩) ?r54
            try simp only [Act.put, List.getElem_toArray, List.getElem_cons_succ, List.getElem_cons_zero, List.setIfInBounds_toArray, List.set_cons_zero, List.set_cons_succ]
            refine AnyBut.takeS (i := 10) (v := undef) rfl (by kernel_rfl) (Nat.le_of_eq (by kernel_rfl)) (by kernel_rfl) (by kernel_rfl) (fun _ _ _ h => h) (HS0.out) (Or.inr ⟨by kernel_rfl, rfl⟩) ?r55
            try simp only [Act.put, List.getElem_toArray, List.getElem_cons_succ, List.getElem_cons_zero, List.setIfInBounds_toArray, List.set_cons_zero, List.set_cons_succ]
            refine AnyBut.takeS (i := 11) (v := undef) rfl (by kernel_rfl) (Nat.le_of_eq (by kernel_rfl)) (by kernel_rfl) (by kernel_rfl) (fun _ _ _ h => h) (HS0.out) (Or.inr ⟨by kernel_rfl, rfl⟩) ?r56
            try simp only [Act.put, List.getElem_toArray, List.getElem_cons_succ, List.getElem_cons_zero, List.setIfInBounds_toArray, List.set_cons_zero, List.set_cons_succ]
            refine AnyBut.takeS (i := 12) (v := undef) rfl (by kernel_rfl) (Nat.le_of_eq (by kernel_rfl)) (by kernel_rfl) (by kernel_rfl) (fun _ _ _ h => h) (HS0.out) (Or.inr ⟨by kernel_rfl, rfl⟩) ?r57
            try simp only [Act.put, List.getElem_toArray, List.getElem_cons_succ, List.getElem_cons_zero, List.setIfInBounds_toArray, List.set_cons_zero, List.set_cons_succ]
            refine AnyBut.takeS (i := 13) (v := undef) rfl (by kernel_rfl) (Nat.le_of_eq (by kernel_rfl)) (by kernel_rfl) (by kernel_rfl) (fun _ _ _ h => h) (HS0.out) (Or.inr ⟨by kernel_rfl, rfl⟩) ?r58
            try simp only [Act.put, List.getElem_toArray, List.getElem_cons_succ, List.getElem_cons_zero, List.setIfInBounds_toArray, List.set_cons_zero, List.set_cons_succ]
            refine AnyBut.takeS (i := 14) (v := undef) rfl (by kernel_rfl) (Nat.le_of_eq (by kernel_rfl)) (by kernel_rfl) (by kernel_rfl) (fun _ _ _ h => h) (HS0.out) (Or.inr ⟨by kernel_rfl, rfl⟩) ?r59
            try simp only [Act.put, List.getElem_toArray, List.getElem_cons_succ, List.getElem_cons_zero, List.setIfInBounds_toArray, List.set_cons_zero, List.set_cons_succ]
            refine AnyBut.takeS (i := 15) (v := undef) rfl (by kernel_rfl) (Nat.le_of_eq (by kernel_rfl)) (by kernel_rfl) (by kernel_rfl) (fun _ _ _ h => h) (HS0.out) (Or.inr ⟨by kernel_rfl, rfl⟩) ?r60
            try simp only [Act.put, List.getElem_toArray, List.getElem_cons_succ, List.getElem_cons_zero, List.setIfInBounds_toArray, List.set_cons_zero, List.set_cons_succ]
            refine AnyBut.takeS (i := 16) (v := undef) rfl (by kernel_rfl) (Nat.le_of_eq (by kernel_rfl)) (by kernel_rfl) (by kernel_rfl) (fun _ _ _ h => h) (HS0.out) (Or.inr ⟨by kernel_rfl, rfl⟩) ?r61
            try simp only [Act.put, List.getElem_toArray, List.getElem_cons_succ, List.getElem_cons_zero, List.setIfInBounds_toArray, List.set_cons_zero, List.set_cons_succ]
            refine AnyBut.takeS (i := 17) (v := undef) rfl (by kernel_rfl) (Nat.le_of_eq (by kernel_rfl)) (by kernel_rfl) (by kernel_rfl) (fun _ _ _ h => h) (HS0.out) (Or.inr ⟨by kernel_rfl, rfl⟩) ?r62
            try simp only [Act.put, List.getElem_toArray, List.getElem_cons_succ, List.getElem_cons_zero, List.setIfInBounds_toArray, List.set_cons_zero, List.set_cons_succ]
            refine AnyBut.takeS (i := 18) (v := undef) rfl (by kernel_rfl) (Nat.le_of_eq (by kernel_rfl)) (by kernel_rfl) (by kernel_rfl) (fun _ _ _ h => h) (HS0.out) (Or.inr ⟨by kernel_rfl, rfl⟩) ?r63
            try simp only [Act.put, List.getElem_toArray, List.getElem_cons_succ, List.getElem_cons_zero, List.setIfInBounds_toArray, List.set_cons_zero, List.set_cons_succ]
            refine AnyBut.takeS (i := 19) (v := undef) rfl (by kernel_rfl) (Nat.le_of_eq (by kernel_rfl)) (by kernel_rfl) (by kernel_rfl) (fun _ _ _ h => h) (HS0.out) (Or.inr ⟨by kernel_rfl, rfl⟩) ?r64
            try simp only [Act.put, List.getElem_toArray, List.getElem_cons_succ, List.getElem_cons_zero, List.setIfInBounds_toArray, List.set_cons_zero, List.set_cons_succ]
            refine AnyBut.takeS (i := 20) (v := undef) rfl (by kernel_rfl) (Nat.le_of_eq (by kernel_rfl)) (by kernel_rfl) (by kernel_rfl) (fun _ _ _ h => h) (HS0.out) (Or.inr ⟨by kernel_rfl, rfl⟩) ?r65
            try simp only [Act.put, List.getElem_toArray, List.getElem_cons_succ, List.getElem_cons_zero, List.setIfInBounds_toArray, List.set_cons_zero, List.set_cons_succ]
            refine AnyBut.takeS (i := 21) (v := ?v66) rfl (by kernel_rfl) (Nat.le_of_eq (by kernel_rfl)) (by kernel_rfl) (by kernel_rfl) (fun _ _ _ h => h) (HS0.out) (Or.inl ⟨by kernel_rfl, ?hy66⟩) ?r66
            case hy66 =>
              intro w hSw
              try dsimp only at hSw
              go_simp
              first | (have y0 := hSw; go_simp) | skip
              try with_reducible rfl
            try simp only [Act.put, List.getElem_toArray, List.getElem_cons_succ, List.getElem_cons_zero, List.setIfInBounds_toArray, List.set_cons_zero, List.set_cons_succ]
            refine AnyBut.takeS (i := 22) (v := ?v67) rfl (by kernel_rfl) (Nat.le_of_eq (by kernel_rfl)) (by kernel_rfl) (by kernel_rfl) (fun _ _ _ h => h) (HS0.out) (Or.inl ⟨by kernel_rfl, ?hy67⟩) ?r67
            case hy67 =>
              intro w hSw
              try dsimp only at hSw
              go_simp
              first | (have y0 := hSw; go_simp) | skip
              try with_reducible rfl
            try simp only [Act.put, List.getElem_toArray, List.getElem_cons_succ, List.getElem_cons_zero, List.setIfInBounds_toArray, List.set_cons_zero, List.set_cons_succ]
            refine AnyBut.takeS (i := 23) (v := undef) rfl (by kernel_rfl) (Nat.le_of_eq (by kernel_rfl)) (by kernel_rfl) (by kernel_rfl) (fun _ _ _ h => h) (HS0.out) (Or.inr ⟨by kernel_rfl, rfl⟩) ?r68
            try simp only [Act.put, List.getElem_toArray, List.getElem_cons_succ, List.getElem_cons_zero, List.setIfInBounds_toArray, List.set_cons_zero, List.set_cons_succ]
            refine AnyBut.takeS (i := 24) (v := undef) rfl (by kernel_rfl) (Nat.le_of_eq (by kernel_rfl)) (by kernel_rfl) (by kernel_rfl) (fun _ _ _ h => h) (HS0.out) (Or.inr ⟨by kernel_rfl, rfl⟩) ?r69
            try simp only [Act.put, List.getElem_toArray, List.getElem_cons_succ, List.getElem_cons_zero, List.setIfInBounds_toArray, List.set_cons_zero, List.set_cons_succ]
            refine AnyBut.takeS (i := 25) (v := undef) rfl (by kernel_rfl) (Nat.le_of_eq (by kernel_rfl)) (by kernel_rfl) (by kernel_rfl) (fun _ _ _ h => h) (HS0.out) (Or.inr ⟨by kernel_rfl, rfl⟩) ?r70
            try simp only [Act.put, List.getElem_toArray, List.getElem_cons_succ, List.getElem_cons_zero, List.setIfInBounds_toArray, List.set_cons_zero, List.set_cons_succ]
            refine AnyBut.takeS (i := 26) (v := undef) rfl (by kernel_rfl) (Nat.le_of_eq (by kernel_rfl)) (by kernel_rfl) (by kernel_rfl) (fun _ _ _ h => h) (HS0.out) (Or.inr ⟨by kernel_rfl, rfl⟩) ?r71
            try simp only [Act.put, List.getElem_toArray, List.getElem_cons_succ, List.getElem_cons_zero, List.setIfInBounds_toArray, List.set_cons_zero, List.set_cons_succ]
            refine AnyBut.takeS (i := 27) (v := undef) rfl (by kernel_rfl) (Nat.le_of_eq (by kernel_rfl)) (by kernel_rfl) (by kernel_rfl) (fun _ _ _ h => h) (HS0.out) (Or.inr ⟨by kernel_rfl, rfl⟩) ?r72
            try simp only [Act.put, List.getElem_toArray, List.getElem_cons_succ, List.getElem_cons_zero, List.setIfInBounds_toArray, List.set_cons_zero, List.set_cons_succ]
            refine AnyBut.takeS (i := 28) (v := ?v73) rfl (by kernel_rfl) (Nat.le_of_eq (by kernel_rfl)) (by kernel_rfl) (by kernel_rfl) (fun _ _ _ h => h) (HS0.out) (Or.inl ⟨by kernel_rfl, ?hy73⟩) ?r73
            case hy73 =>
              intro w hSw
              try dsimp only at hSw
              go_simp
              first | (have y0 := hSw; go_simp) | skip
              try with_reducible rfl
            try simp only [Act.put, List.getElem_toArray, List.getElem_cons_succ, List.getElem_cons_zero, List.setIfInBounds_toArray, List.set_cons_zero, List.set_cons_succ]
            refine AnyBut.takeS (i := 29) (v := ?v74) rfl (by kernel_rfl) (Nat.le_of_eq (by kernel_rfl)) (by kernel_rfl) (by kernel_rfl) (fun _ _ _ h => h) (HS0.out) (Or.inl ⟨by kernel_rfl, ?hy74⟩) ?r74
            case hy74 =>
              intro w hSw
              try dsimp only at hSw
              go_simp
              first | (have y0 := hSw; go_simp) | skip
              try with_reducible rfl
            try simp only [Act.put, List.getElem_toArray, List.getElem_cons_succ, List.getElem_cons_zero, List.setIfInBounds_toArray, List.set_cons_zero, List.set_cons_succ]
            refine AnyBut.takeS (i := 30) (v := undef) rfl (by kernel_rfl) (Nat.le_of_eq (by kernel_rfl)) (by kernel_rfl) (by kernel_rfl) (fun _ _ _ h => h) (HS0.out) (Or.inr ⟨by kernel_rfl, rfl⟩) ?r75
            try simp only [Act.put, List.getElem_toArray, List.getElem_cons_succ, List.getElem_cons_zero, List.setIfInBounds_toArray, List.set_cons_zero, List.set_cons_succ]
            refine AnyBut.takeS (i := 31) (v := undef) rfl (by kernel_rfl) (Nat.le_of_eq (by kernel_rfl)) (by kernel_rfl) (by kernel_rfl) (fun _ _ _ h => h) (HS0.out) (Or.inr ⟨by kernel_rfl, rfl⟩) ?r76
            try simp only [Act.put, List.getElem_toArray, List.getElem_cons_succ, List.getElem_cons_zero, List.setIfInBounds_toArray, List.set_cons_zero, List.set_cons_succ]
            refine AnyBut.takeS (i := 32) (v := undef) rfl (by kernel_rfl) (Nat.le_of_eq (by kernel_rfl)) (by kernel_rfl) (by kernel_rfl) (fun _ _ _ h => h) (HS0.out) (Or.inr ⟨by kernel_rfl, rfl⟩) ?r77
            try simp only [Act.put, List.getElem_toArray, List.getElem_cons_succ, List.getElem_cons_zero, List.setIfInBounds_toArray, List.set_cons_zero, List.set_cons_succ]
            refine AnyBut.takeS (i := 33) (v := undef) rfl (by kernel_rfl) (Nat.le_of_eq (by kernel_rfl)) (by kernel_rfl) (by kernel_rfl) (fun _ _ _ h => h) (HS0.out) (Or.inr ⟨by kernel_rfl, rfl⟩) ?r78
            try simp only [Act.put, List.getElem_toArray, List.getElem_cons_succ, List.getElem_cons_zero, List.setIfInBounds_toArray, List.set_cons_zero, List.set_cons_succ]
            refine AnyBut.takeS (i := 34) (v := undef) rfl (by kernel_rfl) (Nat.le_of_eq (by kernel_rfl)) (by kernel_rfl) (by kernel_rfl) (fun _ _ _ h => h) (HS0.out) (Or.inr ⟨by kernel_rfl, rfl⟩) ?r79
            try simp only [Act.put, List.getElem_toArray, List.getElem_cons_succ, List.getElem_cons_zero, List.setIfInBounds_toArray, List.set_cons_zero, List.set_cons_succ]
            refine AnyBut.takeS (i := 35) (v := undef) rfl (by kernel_rfl) (Nat.le_of_eq (by kernel_rfl)) (by kernel_rfl) (by kernel_rfl) (fun _ _ _ h => h) (HS0.out) (Or.inr ⟨by kernel_rfl, rfl⟩) ?r80
            try simp only [Act.put, List.getElem_toArray, List.getElem_cons_succ, List.getElem_cons_zero, List.setIfInBounds_toArray, List.set_cons_zero, List.set_cons_succ]
            refine AnyBut.takeS (i := 36) (v := undef) rfl (by kernel_rfl) (Nat.le_of_eq (by kernel_rfl)) (by kernel_rfl) (by kernel_rfl) (fun _ _ _ h => h) (HS0.out) (Or.inr ⟨by kernel_rfl, rfl⟩) ?r81
            try simp only [Act.put, List.getElem_toArray, List.getElem_cons_succ, List.getElem_cons_zero, List.setIfInBounds_toArray, List.set_cons_zero, List.set_cons_succ]
            refine AnyBut.takeS (i := 37) (v := undef) rfl (by kernel_rfl) (Nat.le_of_eq (by kernel_rfl)) (by kernel_rfl) (by kernel_rfl) (fun _ _ _ h => h) (HS0.out) (Or.inr ⟨by kernel_rfl, rfl⟩) ?r82
            try simp only [Act.put, List.getElem_toArray, List.getElem_cons_succ, List.getElem_cons_zero, List.setIfInBounds_toArray, List.set_cons_zero, List.set_cons_succ]
            refine AnyBut.takeS (i := 38) (v := undef) rfl (by kernel_rfl) (Nat.le_of_eq (by kernel_rfl)) (by kernel_rfl) (by kernel_rfl) (fun _ _ _ h => h) (HS0.out) (Or.inr ⟨by kernel_rfl, rfl⟩) ?r83
            try simp only [Act.put, List.getElem_toArray, List.getElem_cons_succ, List.getElem_cons_zero, List.setIfInBounds_toArray, List.set_cons_zero, List.set_cons_succ]
            refine AnyBut.takeS (i := 39) (v := undef) rfl (by kernel_rfl) (Nat.le_of_eq (by kernel_rfl)) (by kernel_rfl) (by kernel_rfl) (fun _ _ _ h => h) (HS0.out) (Or.inr ⟨by kernel_rfl, rfl⟩) ?r84
            try simp only [Act.put, List.getElem_toArray, List.getElem_cons_succ, List.getElem_cons_zero, List.setIfInBounds_toArray, List.set_cons_zero, List.set_cons_succ]
            refine AnyBut.takeS (i := 40) (v := undef) rfl (by kernel_rfl) (Nat.le_of_eq (by kernel_rfl)) (by kernel_rfl) (by kernel_rfl) (fun _ _ _ h => h) (HS0.out) (Or.inr ⟨by kernel_rfl, rfl⟩) ?r85
            try simp only [Act.put, List.getElem_toArray, List.getElem_cons_succ, List.getElem_cons_zero, List.setIfInBounds_toArray, List.set_cons_zero, List.set_cons_succ]
            refine AnyBut.takeS (i := 41) (v := undef) rfl (by kernel_rfl) (Nat.le_of_eq (by kernel_rfl)) (by kernel_rfl) (by kernel_rfl) (fun _ _ _ h => h) (HS0.out) (Or.inr ⟨by kernel_rfl, rfl⟩) ?r86
            try simp only [Act.put, List.getElem_toArray, List.getElem_cons_succ, List.getElem_cons_zero, List.setIfInBounds_toArray, List.set_cons_zero, List.set_cons_succ]
            refine AnyBut.takeS (i := 42) (v := ?v87) rfl (by kernel_rfl) (Nat.le_of_eq (by kernel_rfl)) (by kernel_rfl) (by kernel_rfl) (fun _ _ _ h => h) (HS0.out) (Or.inl ⟨by kernel_rfl, ?hy87⟩) ?r87
            case hy87 =>
              intro w hSw
              try dsimp only at hSw
              go_simp
              first | (have y0 := hSw; go_simp) | skip
              try with_reducible rfl
            try simp only [Act.put, List.getElem_toArray, List.getElem_cons_succ, List.getElem_cons_zero, List.setIfInBounds_toArray, List.set_cons_zero, List.set_cons_succ]
            refine AnyBut.takeS (i := 43) (v := ?v88) rfl (by kernel_rfl) (Nat.le_of_eq (by kernel_rfl)) (by kernel_rfl) (by kernel_rfl) (fun _ _ _ h => h) (HS0.out) (Or.inl ⟨by kernel_rfl, ?hy88⟩) ?r88
            case hy88 =>
              intro w hSw
              try dsimp only at hSw
              go_simp
              first | (have y0 := hSw; go_simp) | skip
              try with_reducible rfl
            try simp only [Act.put, List.getElem_toArray, List.getElem_cons_succ, List.getElem_cons_zero, List.setIfInBounds_toArray, List.set_cons_zero, List.set_cons_succ]
            refine AnyBut.done (by kernel_rfl) ?_
            go_wp2
            go_roundg (m - (i + 1))
            case measure => have := HD.out; omega
            case rel => exact ⟨i + 1, HD.out, rfl, rfl, by rw [HSX.out], HKR.out.trans ((Kept.refl _ _).drew)⟩
        · have qi : 0 < i := by omega
          have wj : IntKind.i64.wrap ((i : Int) - 1) = (j : Int) := by rw [IntWalk.i64_in _ ⟨by omega, by have := HM.out; omega⟩]; omega
          have hjm : (j : Int) < (m : Int) := by omega
          have hj0 : (0 : Int) ≤ (j : Int) := by omega
          have hjP : j < PW.length := by omega
          have hq := List.getElem?_eq_getElem hjP
          obtain ⟨q, hqq⟩ : ∃ p, p = PW[j] := ⟨_, rfl⟩
          rw [← hqq] at hq
          obtain ⟨z4, z5, z7⟩ := HIR.out wr HKR.out gi oi j q rfl hq
          obtain ⟨s1, hs1⟩ : ∃ s, s = p.1.start := ⟨_, rfl⟩
          obtain ⟨mo, hmo'⟩ : ∃ s, s = p.1.mono := ⟨_, rfl⟩
          obtain ⟨s0, hs0⟩ : ∃ s, s = q.1.start := ⟨_, rfl⟩
          obtain ⟨x0, hx0⟩ : ∃ s, s = q.1.whole := ⟨_, rfl⟩
          rw [← hs1] at r5
          rw [← hmo'] at r4
          rw [← hs0] at z5
          rw [← hx0] at z7
          have h4 : fl = 4 ↔ (s1 = s0 ∧ mo = true ∧ x1 < x0) := by
            rw [b5]
            constructor
            · rintro ⟨j', q', e, hq', c1, c2, c3⟩
              obtain rfl : j' = j := by omega
              rw [hq] at hq'
              injection hq' with hq'
              subst hq'
              exact ⟨by rw [hs1, hs0]; exact c1, by rw [hmo']; exact c2, by rw [hx0]; exact c3⟩
            · rintro ⟨c1, c2, c3⟩
              exact ⟨j, q, hij, hq, by rw [← hs1, ← hs0]; exact c1, by rw [← hmo']; exact c2, by rw [← hx0]; exact c3⟩
          have HF4 : Hid (¬ (s1 = s0 ∧ mo = true ∧ x1 < x0) → (fl == 4) = false) := Lib.hid (fun h => by rw [beq_eq_false_iff_ne]; exact fun e => h (h4.1 e))
          have HT4 : Hid ((s1 = s0 ∧ mo = true ∧ x1 < x0) → (fl == 4) = true) := Lib.hid (fun h => by rw [beq_iff_eq]; exact h4.2 h)
          clear hd hin hiP hpp hp hS0 hx1 hy1 hfl b1 b2 b3 b4 b5 hij hjP hqq hq hs1 hmo' hs0 hx0 h4 z4
          by_cases hf : fl = 0
          · subst hf
            have q1 : True := trivial
            clear q1
            rw [if_pos rfl] at HW0 wz
            go_wp2_with fail
            refine (HW0.out _).mono ?_
            rintro e wq ⟨rfl, rfl⟩
            go_upto_region 17 with fail
            by_cases hst : s1 = s0
            case neg =>
              have qs : (s1 == s0) = false := by rw [beq_eq_false_iff_ne]; exact hst
              have q4 := HF4.out (fun h => hst h.1)
              clear hst
              have HS0 : Hid ((fun w' => w'.cell? ⟨go, oo + i * 17 + 16, none⟩ = some (.int .i64 0) ∧ (w'.cell? ⟨gi, oi + i * 17 + 4, none⟩ = some (.bool mo) ∧ w'.cell? ⟨gi, oi + i * 17 + 5, none⟩ = some (.int .i64 s1) ∧ w'.cell? ⟨gi, oi + i * 17 + 7, none⟩ = some (.int .i64 x1)) ∧ w'.cell? ⟨gi, oi + j * 17 + 5, none⟩ = some (.int .i64 s0) ∧ w'.cell? ⟨gi, oi + j * 17 + 7, none⟩ = some (.int .i64 x0)) wr.drew) := Lib.hid ⟨t16, ⟨r4, r5, r7⟩, z5, z7⟩
              refine AnyBut.start (S := fun w' => w'.cell? ⟨go, oo + i * 17 + 16, none⟩ = some (.int .i64 0) ∧ (w'.cell? ⟨gi, oi + i * 17 + 4, none⟩ = some (.bool mo) ∧ w'.cell? ⟨gi, oi + i * 17 + 5, none⟩ = some (.int .i64 s1) ∧ w'.cell? ⟨gi, oi + i * 17 + 7, none⟩ = some (.int .i64 x1)) ∧ w'.cell? ⟨gi, oi + j * 17 + 5, none⟩ = some (.int .i64 s0) ∧ w'.cell? ⟨gi, oi + j * 17 + 7, none⟩ = some (.int .i64 x0)) (k := 44) (by kernel_rfl) ?_
              refine AnyBut.takeS (i := 0) (v := ?v89) rfl (by kernel_rfl) (Nat.le_of_eq (by kernel_rfl)) (by kernel_rfl) (by kernel_rfl) (fun _ _ _ h => h) (HS0.out) (Or.inl ⟨by kernel_rfl, ?hy89⟩) ?r89
              case hy89 =>
                intro w hSw
                try dsimp only at hSw
                go_simp
                first | (obtain ⟨y0, ⟨y1', y2, y3⟩, y4, y5⟩ := hSw; go_simp) | skip
                try with_reducible rfl
              try simp only [Act.put, List.getElem_toArray, List.getElem_cons_zero, List.setIfInBounds_toArray, List.set_cons_zero, List.set_cons_succ]
              refine AnyBut.takeS (i := 1) (v := ?v90) rfl (by kernel_rfl) (Nat.le_of_eq (by kernel_rfl)) (by kernel_rfl) (by kernel_rfl) (fun _ _ _ h => h) (HS0.out) (Or.inl ⟨by kernel_rfl, ?hy90⟩) ?r90
              case hy90 =>
                intro w hSw
                try dsimp only at hSw
                go_simp
                first | (obtain ⟨y0, ⟨y1', y2, y3⟩, y4, y5⟩ := hSw; go_simp) | skip
                try with_reducible rfl
              try simp only [Act.put, List.getElem_toArray, List.getElem_cons_succ, List.getElem_cons_zero, List.setIfInBounds_toArray, List.set_cons_zero, List.set_cons_succ]
              refine AnyBut.takeS (i := 2) (v := ?v91) rfl (by kernel_rfl) (Nat.le_of_eq (by kernel_rfl)) (by kernel_rfl) (by kernel_rfl) (fun _ _ _ h => h) (HS0.out) (Or.inl ⟨by kernel_rfl, ?hy91⟩) ?r91
              case hy91 =>
                intro w hSw
                try dsimp only at hSw
                go_simp
                first | (obtain ⟨y0, ⟨y1', y2, y3⟩, y4, y5⟩ := hSw; go_simp) | skip
                try with_reducible rfl
              try simp only [Act.put, List.getElem_toArray, List.getElem_cons_succ, List.getElem_cons_zero, List.setIfInBounds_toArray, List.set_cons_zero, List.set_cons_succ]
              refine AnyBut.takeS (i := 3) (v := ?v92) rfl (by kernel_rfl) (Nat.le_of_eq (by kernel_rfl)) (by kernel_rfl) (by kernel_rfl) (fun _ _ _ h => h) (HS0.out) (Or.inl ⟨by kernel_rfl, ?hy92⟩) ?r92
              case hy92 =>
                intro w hSw
                try dsimp only at hSw
                go_simp
                first | (obtain ⟨y0, ⟨y1', y2, y3⟩, y4, y5⟩ := hSw; go_simp) | skip
                try with_reducible rfl
              try simp only [Act.put, List.getElem_toArray, List.getElem_cons_succ, List.getElem_cons_zero, List.setIfInBounds_toArray, List.set_cons_zero, List.set_cons_succ]
              refine AnyBut.takeS (i := 4) (v := ?v93) rfl (by kernel_rfl) (Nat.le_of_eq (by kernel_rfl)) (by kernel_rfl) (by kernel_rfl) (fun _ _ _ h => h) (HS0.out) (Or.inl ⟨by kernel_rfl, ?hy93⟩) ?r93
              case hy93 =>
                intro w hSw
                try dsimp only at hSw
                go_simp
                first | (obtain ⟨y0, ⟨y1', y2, y3⟩, y4, y5⟩ := hSw; go_simp) | skip
                try with_reducible rfl
              try simp only [Act.put, List.getElem_toArray, List.getElem_cons_succ, List.getElem_cons_zero, List.setIfInBounds_toArray, List.set_cons_zero, List.set_cons_succ]
              refine AnyBut.takeS (i := 5) (v := ?v94) rfl (by kernel_rfl) (Nat.le_of_eq (by kernel_rfl)) (by kernel_rfl) (by kernel_rfl) (fun _ _ _ h => h) (HS0.out) (Or.inl ⟨by kernel_rfl, ?hy94⟩) ?r94
              case hy94 =>
                intro w hSw
                try dsimp only at hSw
                go_simp
                first | (obtain ⟨y0, ⟨y1', y2, y3⟩, y4, y5⟩ := hSw; go_simp) | skip
                try with_reducible rfl
              try simp only [Act.put, List.getElem_toArray, List.getElem_cons_succ, List.getElem_cons_zero, List.setIfInBounds_toArray, List.set_cons_zero, List.set_cons_succ]
              refine AnyBut.takeS (i := 6) (v := ?v95) rfl (by kernel_rfl) (Nat.le_of_eq (by kernel_rfl)) (by kernel_rfl) (by kernel_rfl) (fun _ _ _ h => h) (HS0.out) (Or.inl ⟨by kernel_rfl, ?hy95⟩) ?r95
              case hy95 =>
                intro w hSw
                try dsimp only at hSw
                go_simp
                first | (obtain ⟨y0, ⟨y1', y2, y3⟩, y4, y5⟩ := hSw; go_simp) | skip
                try with_reducible rfl
              try simp only [Act.put, List.getElem_toArray, List.getElem_cons_succ, List.getElem_cons_zero, List.setIfInBounds_toArray, List.set_cons_zero, List.set_cons_succ]
              refine AnyBut.takeS (i := 7) (v := ?v96) rfl (by kernel_rfl) (Nat.le_of_eq (by kernel_rfl)) (by kernel_rfl) (by kernel_rfl) (fun _ _ _ h => h) (HS0.out) (Or.inl ⟨by kernel_rfl, ?hy96⟩) ?r96
              case hy96 =>
                intro w hSw
                try dsimp only at hSw
                go_simp
                first | (obtain ⟨y0, ⟨y1', y2, y3⟩, y4, y5⟩ := hSw; go_simp) | skip
                try with_reducible rfl
              try simp only [Act.put, List.getElem_toArray, List.getElem_cons_succ, List.getElem_cons_zero, List.setIfInBounds_toArray, List.set_cons_zero, List.set_cons_succ]
              refine AnyBut.takeS (i := 8) (v := ?v97) rfl (by kernel_rfl) (Nat.le_of_eq (by kernel_rfl)) (by kernel_rfl) (by kernel_rfl) (fun _ _ _ h => h) (HS0.out) (Or.inl ⟨by kernel_rfl, ?hy97⟩) ?r97
              case hy97 =>
                intro w hSw
                try dsimp only at hSw
                go_simp
                first | (obtain ⟨y0, ⟨y1', y2, y3⟩, y4, y5⟩ := hSw; go_simp) | skip
                try with_reducible rfl
              try simp only [Act.put, List.getElem_toArray, List.getElem_cons_succ, List.getElem_cons_zero, List.setIfInBounds_toArray, List.set_cons_zero, List.set_cons_succ]
              refine AnyBut.takeS (i := 9) (v := ?v98) rfl (by kernel_rfl) (Nat.le_of_eq (by kernel_rfl)) (by kernel_rfl) (by kernel_rfl) (fun _ _ _ h => h) (HS0.out) (Or.inl ⟨by kernel_rfl, ?hy98⟩) ?r98
              case hy98 =>
                intro w hSw
                try dsimp only at hSw
                go_simp
                first | (obtain ⟨y0, ⟨y1', y2, y3⟩, y4, y5⟩ := hSw; go_simp) | skip
                try with_reducible rfl
              try simp only [Act.put, List.getElem_toArray, List.getElem_cons_succ, List.getElem_cons_zero, List.setIfInBounds_toArray, List.set_cons_zero, List.set_cons_succ]
              refine AnyBut.takeS (i := 10) (v := ?v99) rfl (by kernel_rfl) (Nat.le_of_eq (by kernel_rfl)) (by kernel_rfl) (by kernel_rfl) (fun _ _ _ h => h) (HS0.out) (Or.inl ⟨by kernel_rfl, ?hy99⟩) ?r99
              case hy99 =>
                intro w hSw
                try dsimp only at hSw
                go_simp
                first | (obtain ⟨y0, ⟨y1', y2, y3⟩, y4, y5⟩ := hSw; go_simp) | skip
                try with_reducible rfl
              try simp only [Act.put, List.getElem_toArray, List.getElem_cons_succ, List.getElem_cons_zero, List.setIfInBounds_toArray, List.set_cons_zero, List.set_cons_succ]
              refine AnyBut.takeS (i := 11) (v := ?v100) rfl (by kernel_rfl) (Nat.le_of_eq (by kernel_rfl)) (by kernel_rfl) (by kernel_rfl) (fun _ _ _ h => h) (HS0.out) (Or.inl ⟨by kernel_rfl, ?hy100⟩) ?r100
              case hy100 =>
                intro w hSw
                try dsimp only at hSw
                go_simp
                first | (obtain ⟨y0, ⟨y1', y2, y3⟩, y4, y5⟩ := hSw; go_simp) | skip
                try with_reducible rfl
              try simp only [Act.put, List.getElem_toArray, List.getElem_cons_succ, List.getElem_cons_zero, List.setIfInBounds_toArray, List.set_cons_zero, List.set_cons_succ]
              refine AnyBut.takeS (i := 12) (v := ?v101) rfl (by kernel_rfl) (Nat.le_of_eq (by kernel_rfl)) (by kernel_rfl) (by kernel_rfl) (fun _ _ _ h => h) (HS0.out) (Or.inl ⟨by kernel_rfl, ?hy101⟩) ?r101
              case hy101 =>
                intro w hSw
                try dsimp only at hSw
                go_simp
                first | (obtain ⟨y0, ⟨y1', y2, y3⟩, y4, y5⟩ := hSw; go_simp) | skip
                try with_reducible rfl
              try simp only [Act.put, List.getElem_toArray, List.getElem_cons_succ, List.getElem_cons_zero, List.setIfInBounds_toArray, List.set_cons_zero, List.set_cons_succ]
              refine AnyBut.takeS (i := 13) (v := ?v102) rfl (by kernel_rfl) (Nat.le_of_eq (by kernel_rfl)) (by kernel_rfl) (by kernel_rfl) (fun _ _ _ h => h) (HS0.out) (Or.inl ⟨by kernel_rfl, ?hy102⟩) ?r102
              case hy102 =>
                intro w hSw
                try dsimp only at hSw
                go_simp
                first | (obtain ⟨y0, ⟨y1', y2, y3⟩, y4, y5⟩ := hSw; go_simp) | skip
                try with_reducible rfl
              try simp only [Act.put, List.getElem_toArray, List.getElem_cons_succ, List.getElem_cons_zero, List.setIfInBounds_toArray, List.set_cons_zero, List.set_cons_succ]
              refine AnyBut.takeS (i := 14) (v := ?v103) rfl (by kernel_rfl) (Nat.le_of_eq (by kernel_rfl)) (by kernel_rfl) (by kernel_rfl) (fun _ _ _ h => h) (HS0.out) (Or.inl ⟨by kernel_rfl, ?hy103⟩) ?r103
              case hy103 =>
                intro w hSw
                try dsimp only at hSw
                go_simp
                first | (obtain ⟨y0, ⟨y1', y2, y3⟩, y4, y5⟩ := hSw; go_simp) | skip
                try with_reducible rfl
              try simp only [Act.put, List.getElem_toArray, List.getElem_cons_succ, List.getElem_cons_zero, List.setIfInBounds_toArray, List.set_cons_zero, List.set_cons_succ]
              refine AnyBut.takeS (i := 15) (v := ?v104) rfl (by kernel_rfl) (Nat.le_of_eq (by kernel_rfl)) (by kernel_rfl) (by kernel_rfl) (fun _ _ _ h => h) (HS0.out) (Or.inl ⟨by kernel_rfl, ?hy104⟩) ?r104
              case hy104 =>
                intro w hSw
                try dsimp only at hSw
                go_simp
                first | (obtain ⟨y0, ⟨y1', y2, y3⟩, y4, y5⟩ := hSw; go_simp) | skip
                try with_reducible rfl
              try simp only [Act.put, List.getElem_toArray, List.getElem_cons_succ, List.getElem_cons_zero, List.setIfInBounds_toArray, List.set_cons_zero, List.set_cons_succ]
              refine AnyBut.takeS (i := 16) (v := ?v105) rfl (by kernel_rfl) (Nat.le_of_eq (by kernel_rfl)) (by kernel_rfl) (by kernel_rfl) (fun _ _ _ h => h) (HS0.out) (Or.inl ⟨by kernel_rfl, ?hy105⟩) ?r105
              case hy105 =>
                intro w hSw
                try dsimp only at hSw
                go_simp
                first | (obtain ⟨y0, ⟨y1', y2, y3⟩, y4, y5⟩ := hSw; go_simp) | skip
                try with_reducible rfl
              try simp only [Act.put, List.getElem_toArray, List.getElem_cons_succ, List.getElem_cons_zero, List.setIfInBounds_toArray, List.set_cons_zero, List.set_cons_succ]
              refine AnyBut.takeS (i := 17) (v := ?v106) rfl (by kernel_rfl) (Nat.le_of_eq (by kernel_rfl)) (by kernel_rfl) (by kernel_rfl) (fun _ _ _ h => h) (HS0.out) (Or.inl ⟨by kernel_rfl, ?hy106⟩) ?r106
              case hy106 =>
                intro w hSw
                try dsimp only at hSw
                go_simp
                first | (obtain ⟨y0, ⟨y1', y2, y3⟩, y4, y5⟩ := hSw; go_simp) | skip
                try with_reducible rfl
              try simp only [Act.put, List.getElem_toArray, List.getElem_cons_succ, List.getElem_cons_zero, List.setIfInBounds_toArray, List.set_cons_zero, List.set_cons_succ]
              refine AnyBut.takeS (i := 18) (v := ?v107) rfl (by kernel_rfl) (Nat.le_of_eq (by kernel_rfl)) (by kernel_rfl) (by kernel_rfl) (fun _ _ _ h => h) (HS0.out) (Or.inl ⟨by kernel_rfl, ?hy107⟩) ?r107
              case hy107 =>
                intro w hSw
                try dsimp only at hSw
                go_simp
                first | (obtain ⟨y0, ⟨y1', y2, y3⟩, y4, y5⟩ := hSw; go_simp) | skip
                try with_reducible rfl
              try simp only [Act.put, List.getElem_toArray, List.getElem_cons_succ, List.getElem_cons_zero, List.setIfInBounds_toArray, List.set_cons_zero, List.set_cons_succ]
              refine AnyBut.takeS (i := 19) (v := ?v108) rfl (by kernel_rfl) (Nat.le_of_eq (by kernel_rfl)) (by kernel_rfl) (by kernel_rfl) (fun _ _ _ h => h) (HS0.out) (Or.inl ⟨by kernel_rfl, ?hy108⟩) ?r108
              case hy108 =>
                intro w hSw
                try dsimp only at hSw
                go_simp
                first | (obtain ⟨y0, ⟨y1', y2, y3⟩, y4, y5⟩ := hSw; go_simp) | skip
                try with_reducible rfl
              try simp only [Act.put, List.getElem_toArray, List.getElem_cons_succ, List.getElem_cons_zero, List.setIfInBounds_toArray, List.set_cons_zero, List.set_cons_succ]
              refine AnyBut.takeS (i := 20) (v := ?v109) rfl (by kernel_rfl) (Nat.le_of_eq (by kernel_rfl)) (by kernel_rfl) (by kernel_rfl) (fun _ _ _ h => h) (HS0.out) (Or.inl ⟨by kernel_rfl, ?hy109⟩) ?r109
              case hy109 =>
                intro w hSw
                try dsimp only at hSw
                go_simp
                first | (obtain ⟨y0, ⟨y1', y2, y3⟩, y4, y5⟩ := hSw; go_simp) | skip
                try with_reducible rfl
              try simp only [Act.put, List.getElem_toArray, List.getElem_cons_succ, List.getElem_cons_zero, List.setIfInBounds_toArray, List.set_cons_zero, List.set_cons_succ]
              refine AnyBut.takeS (i := 21) (v := ?v110) rfl (by kernel_rfl) (Nat.le_of_eq (by kernel_rfl)) (by kernel_rfl) (by kernel_rfl) (fun _ _ _ h => h) (HS0.out) (Or.inl ⟨by kernel_rfl, ?hy110⟩) ?r110
              case hy110 =>
                intro w hSw
                try dsimp only at hSw
                go_simp
                first | (obtain ⟨y0, ⟨y1', y2, y3⟩, y4, y5⟩ := hSw; go_simp) | skip
                try with_reducible rfl
              try simp only [Act.put, List.getElem_toArray, List.getElem_cons_succ, List.getElem_cons_zero, List.setIfInBounds_toArray, List.set_cons_zero, List.set_cons_succ]
              refine AnyBut.takeS (i := 22) (v := ?v111) rfl (by kernel_rfl) (Nat.le_of_eq (by kernel_rfl)) (by kernel_rfl) (by kernel_rfl) (fun _ _ _ h => h) (HS0.out) (Or.inl ⟨by kernel_rfl, ?hy111⟩) ?r111
              case hy111 =>
                intro w hSw
                try dsimp only at hSw
                go_simp
                first | (obtain ⟨y0, ⟨y1', y2, y3⟩, y4, y5⟩ := hSw; go_simp) | skip
                try with_reducible rfl
              try simp only [Act.put, List.getElem_toArray, List.getElem_cons_succ, List.getElem_cons_zero, List.setIfInBounds_toArray, List.set_cons_zero, List.set_cons_succ]
              refine AnyBut.takeS (i := 23) (v := undef) rfl (by kernel_rfl) (Nat.le_of_eq (by kernel_rfl)) (by kernel_rfl) (by kernel_rfl) (fun _ _ _ h => h) (HS0.out) (Or.inr ⟨by kernel_rfl, rfl⟩) ?r112
              try simp only [Act.put, List.getElem_toArray, List.getElem_cons_succ, List.getElem_cons_zero, List.setIfInBounds_toArray, List.set_cons_zero, List.set_cons_succ]
              refine AnyBut.takeS (i := 24) (v := undef) rfl (by kernel_rfl) (Nat.le_of_eq (by kernel_rfl)) (by kernel_rfl) (by kernel_rfl) (fun _ _ _ h => h) (HS0.out) (Or.inr ⟨by kernel_rfl, rfl⟩) ?r113
              try simp only [Act.put, List.getElem_toArray, List.getElem_cons_succ, List.getElem_cons_zero, List.setIfInBounds_toArray, List.set_cons_zero, List.set_cons_succ]
              refine AnyBut.takeS (i := 25) (v := undef) rfl (by kernel_rfl) (Nat.le_of_eq (by kernel_rfl)) (by kernel_rfl) (by kernel_rfl) (fun _ _ _ h => h) (HS0.out) (Or.inr ⟨by kernel_rfl, rfl⟩) ?r114
              try simp only [Act.put, List.getElem_toArray, List.getElem_cons_succ, List.getElem_cons_zero, List.setIfInBounds_toArray, List.set_cons_zero, List.set_cons_succ]
              refine AnyBut.takeS (i := 26) (v := undef) rfl (by kernel_rfl) (Nat.le_of_eq (by kernel_rfl)) (by kernel_rfl) (by kernel_rfl) (fun _ _ _ h => h) (HS0.out) (Or.inr ⟨by kernel_rfl, rfl⟩) ?r115
              try simp only [Act.put, List.getElem_toArray, List.getElem_cons_succ, List.getElem_cons_zero, List.setIfInBounds_toArray, List.set_cons_zero, List.set_cons_succ]
              refine AnyBut.takeS (i := 27) (v := undef) rfl (by kernel_rfl) (Nat.le_of_eq (by kernel_rfl)) (by kernel_rfl) (by kernel_rfl) (fun _ _ _ h => h) (HS0.out) (Or.inr ⟨by kernel_rfl, rfl⟩) ?r116
              try simp only [Act.put, List.getElem_toArray, List.getElem_cons_succ, List.getElem_cons_zero, List.setIfInBounds_toArray, List.set_cons_zero, List.set_cons_succ]
              refine AnyBut.takeS (i := 28) (v := ?v117) rfl (by kernel_rfl) (Nat.le_of_eq (by kernel_rfl)) (by kernel_rfl) (by kernel_rfl) (fun _ _ _ h => h) (HS0.out) (Or.inl ⟨by kernel_rfl, ?hy117⟩) ?r117
              case hy117 =>
                intro w hSw
                try dsimp only at hSw
                go_simp
                first | (obtain ⟨y0, ⟨y1', y2, y3⟩, y4, y5⟩ := hSw; go_simp) | skip
                try with_reducible rfl
              try simp only [Act.put, List.getElem_toArray, List.getElem_cons_succ, List.getElem_cons_zero, List.setIfInBounds_toArray, List.set_cons_zero, List.set_cons_succ]
              refine AnyBut.takeS (i := 29) (v := ?v118) rfl (by kernel_rfl) (Nat.le_of_eq (by kernel_rfl)) (by kernel_rfl) (by kernel_rfl) (fun _ _ _ h => h) (HS0.out) (Or.inl ⟨by kernel_rfl, ?hy118⟩) ?r118
              case hy118 =>
                intro w hSw
                try dsimp only at hSw
                go_simp
                first | (obtain ⟨y0, ⟨y1', y2, y3⟩, y4, y5⟩ := hSw; go_simp) | skip
                try with_reducible rfl
              try simp only [Act.put, List.getElem_toArray, List.getElem_cons_succ, List.getElem_cons_zero, List.setIfInBounds_toArray, List.set_cons_zero, List.set_cons_succ]
              refine AnyBut.takeS (i := 30) (v := undef) rfl (by kernel_rfl) (Nat.le_of_eq (by kernel_rfl)) (by kernel_rfl) (by kernel_rfl) (fun _ _ _ h => h) (HS0.out) (Or.inr ⟨by kernel_rfl, rfl⟩) ?r119
              try simp only [Act.put, List.getElem_toArray, List.getElem_cons_succ, List.getElem_cons_zero, List.setIfInBounds_toArray, List.set_cons_zero, List.set_cons_succ]
              refine AnyBut.takeS (i := 31) (v := undef) rfl (by kernel_rfl) (Nat.le_of_eq (by kernel_rfl)) (by kernel_rfl) (by kernel_rfl) (fun _ _ _ h => h) (HS0.out) (Or.inr ⟨by kernel_rfl, rfl⟩) ?r120
              try simp only [Act.put, List.getElem_toArray, List.getElem_cons_succ, List.getElem_cons_zero, List.setIfInBounds_toArray, List.set_cons_zero, List.set_cons_succ]
              refine AnyBut.takeS (i := 32) (v := undef) rfl (by kernel_rfl) (Nat.le_of_eq (by kernel_rfl)) (by kernel_rfl) (by kernel_rfl) (fun _ _ _ h => h) (HS0.out) (Or.inr ⟨by kernel_rfl, rfl⟩) ?r121
              try simp only [Act.put, List.getElem_toArray, List.getElem_cons_succ, List.getElem_cons_zero, List.setIfInBounds_toArray, List.set_cons_zero, List.set_cons_succ]
              refine AnyBut.takeS (i := 33) (v := undef) rfl (by kernel_rfl) (Nat.le_of_eq (by kernel_rfl)) (by kernel_rfl) (by kernel_rfl) (fun _ _ _ h => h) (HS0.out) (Or.inr ⟨by kernel_rfl, rfl⟩) ?r122
              try simp only [Act.put, List.getElem_toArray, List.getElem_cons_succ, List.getElem_cons_zero, List.setIfInBounds_toArray, List.set_cons_zero, List.set_cons_succ]
              refine AnyBut.takeS (i := 34) (v := undef) rfl (by kernel_rfl) (Nat.le_of_eq (by kernel_rfl)) (by kernel_rfl) (by kernel_rfl) (fun _ _ _ h => h) (HS0.out) (Or.inr ⟨by kernel_rfl, rfl⟩) ?r123
              try simp only [Act.put, List.getElem_toArray, List.getElem_cons_succ, List.getElem_cons_zero, List.setIfInBounds_toArray, List.set_cons_zero, List.set_cons_succ]
              refine AnyBut.takeS (i := 35) (v := undef) rfl (by kernel_rfl) (Nat.le_of_eq (by kernel_rfl)) (by kernel_rfl) (by kernel_rfl) (fun _ _ _ h => h) (HS0.out) (Or.inr ⟨by kernel_rfl, rfl⟩) ?r124
              try simp only [Act.put, List.getElem_toArray, List.getElem_cons_succ, List.getElem_cons_zero, List.setIfInBounds_toArray, List.set_cons_zero, List.set_cons_succ]
              refine AnyBut.takeS (i := 36) (v := undef) rfl (by kernel_rfl) (Nat.le_of_eq (by kernel_rfl)) (by kernel_rfl) (by kernel_rfl) (fun _ _ _ h => h) (HS0.out) (Or.inr ⟨by kernel_rfl, rfl⟩) ?r125
              try simp only [Act.put, List.getElem_toArray, List.getElem_cons_succ, List.getElem_cons_zero, List.setIfInBounds_toArray, List.set_cons_zero, List.set_cons_succ]
              refine AnyBut.takeS (i := 37) (v := undef) rfl (by kernel_rfl) (Nat.le_of_eq (by kernel_rfl)) (by kernel_rfl) (by kernel_rfl) (fun _ _ _ h => h) (HS0.out) (Or.inr ⟨by kernel_rfl, rfl⟩) ?r126
              try simp only [Act.put, List.getElem_toArray, List.getElem_cons_succ, List.getElem_cons_zero, List.setIfInBounds_toArray, List.set_cons_zero, List.set_cons_succ]
              refine AnyBut.takeS (i := 38) (v := undef) rfl (by kernel_rfl) (Nat.le_of_eq (by kernel_rfl)) (by kernel_rfl) (by kernel_rfl) (fun _ _ _ h => h) (HS0.out) (Or.inr ⟨by kernel_rfl, rfl⟩) ?r127
              try simp only [Act.put, List.getElem_toArray, List.getElem_cons_succ, List.getElem_cons_zero, List.setIfInBounds_toArray, List.set_cons_zero, List.set_cons_succ]
              refine AnyBut.takeS (i := 39) (v := undef) rfl (by kernel_rfl) (Nat.le_of_eq (by kernel_rfl)) (by kernel_rfl) (by kernel_rfl) (fun _ _ _ h => h) (HS0.out) (Or.inr ⟨by kernel_rfl, rfl⟩) ?r128
              try simp only [Act.put, List.getElem_toArray, List.getElem_cons_succ, List.getElem_cons_zero, List.setIfInBounds_toArray, List.set_cons_zero, List.set_cons_succ]
              refine AnyBut.takeS (i := 40) (v := undef) rfl (by kernel_rfl) (Nat.le_of_eq (by kernel_rfl)) (by kernel_rfl) (by kernel_rfl) (fun _ _ _ h => h) (HS0.out) (Or.inr ⟨by kernel_rfl, rfl⟩) ?r129
              try simp only [Act.put, List.getElem_toArray, List.getElem_cons_succ, List.getElem_cons_zero, List.setIfInBounds_toArray, List.set_cons_zero, List.set_cons_succ]
              refine AnyBut.takeS (i := 41) (v := undef) rfl (by kernel_rfl) (Nat.le_of_eq (by kernel_rfl)) (by kernel_rfl) (by kernel_rfl) (fun _ _ _ h => h) (HS0.out) (Or.inr ⟨by kernel_rfl, rfl⟩) ?r130
              try simp only [Act.put, List.getElem_toArray, List.getElem_cons_succ, List.getElem_cons_zero, List.setIfInBounds_toArray, List.set_cons_zero, List.set_cons_succ]
              refine AnyBut.takeS (i := 42) (v := ?v131) rfl (by kernel_rfl) (Nat.le_of_eq (by kernel_rfl)) (by kernel_rfl) (by kernel_rfl) (fun _ _ _ h => h) (HS0.out) (Or.inl ⟨by kernel_rfl, ?hy131⟩) ?r131
              case hy131 =>
                intro w hSw
                try dsimp only at hSw
                go_simp
                first | (obtain ⟨y0, ⟨y1', y2, y3⟩, y4, y5⟩ := hSw; go_simp) | skip
                try with_reducible rfl
              try simp only [Act.put, List.getElem_toArray, List.getElem_cons_succ, List.getElem_cons_zero, List.setIfInBounds_toArray, List.set_cons_zero, List.set_cons_succ]
              refine AnyBut.takeS (i := 43) (v := ?v132) rfl (by kernel_rfl) (Nat.le_of_eq (by kernel_rfl)) (by kernel_rfl) (by kernel_rfl) (fun _ _ _ h => h) (HS0.out) (Or.inl ⟨by kernel_rfl, ?hy132⟩) ?r132
              case hy132 =>
                intro w hSw
                try dsimp only at hSw
                go_simp
                first | (obtain ⟨y0, ⟨y1', y2, y3⟩, y4, y5⟩ := hSw; go_simp) | skip
                try with_reducible rfl
              try simp only [Act.put, List.getElem_toArray, List.getElem_cons_succ, List.getElem_cons_zero, List.setIfInBounds_toArray, List.set_cons_zero, List.set_cons_succ]
              refine AnyBut.done (by kernel_rfl) ?_
              go_wp2
              go_roundg (m - (i + 1))
              case measure => have := HD.out; omega
              case rel => exact ⟨i + 1, HD.out, rfl, rfl, by rw [HSX.out], HKR.out.trans ((Kept.refl _ _).drew)⟩
            have qs : (s1 == s0) = true := by rw [beq_iff_eq]; exact hst
            cases hmo : mo with
            | false =>
              have q4 := HF4.out (fun h => by rw [hmo] at h; exact absurd h.2.1 (by decide))
              rw [hmo] at r4
              clear hst hmo
              have HS0 : Hid ((fun w' => w'.cell? ⟨go, oo + i * 17 + 16, none⟩ = some (.int .i64 0) ∧ (w'.cell? ⟨gi, oi + i * 17 + 4, none⟩ = some (.bool false) ∧ w'.cell? ⟨gi, oi + i * 17 + 5, none⟩ = some (.int .i64 s1) ∧ w'.cell? ⟨gi, oi + i * 17 + 7, none⟩ = some (.int .i64 x1)) ∧ w'.cell? ⟨gi, oi + j * 17 + 5, none⟩ = some (.int .i64 s0) ∧ w'.cell? ⟨gi, oi + j * 17 + 7, none⟩ = some (.int .i64 x0)) wr.drew) := Lib.hid ⟨t16, ⟨r4, r5, r7⟩, z5, z7⟩
              refine AnyBut.start (S := fun w' => w'.cell? ⟨go, oo + i * 17 + 16, none⟩ = some (.int .i64 0) ∧ (w'.cell? ⟨gi, oi + i * 17 + 4, none⟩ = some (.bool false) ∧ w'.cell? ⟨gi, oi + i * 17 + 5, none⟩ = some (.int .i64 s1) ∧ w'.cell? ⟨gi, oi + i * 17 + 7, none⟩ = some (.int .i64 x1)) ∧ w'.cell? ⟨gi, oi + j * 17 + 5, none⟩ = some (.int .i64 s0) ∧ w'.cell? ⟨gi, oi + j * 17 + 7, none⟩ = some (.int .i64 x0)) (k := 44) (by kernel_rfl) ?_
              refine AnyBut.takeS (i := 0) (v := ?v133) rfl (by kernel_rfl) (Nat.le_of_eq (by kernel_rfl)) (by kernel_rfl) (by kernel_rfl) (fun _ _ _ h => h) (HS0.out) (Or.inl ⟨by kernel_rfl, ?hy133⟩) ?r133
              case hy133 =>
                intro w hSw
                try dsimp only at hSw
                go_simp
                first | (obtain ⟨y0, ⟨y1', y2, y3⟩, y4, y5⟩ := hSw; go_simp) | skip
                try with_reducible rfl
              try simp only [Act.put, List.getElem_toArray, List.getElem_cons_zero, List.setIfInBounds_toArray, List.set_cons_zero, List.set_cons_succ]
              refine AnyBut.takeS (i := 1) (v := ?v134) rfl (by kernel_rfl) (Nat.le_of_eq (by kernel_rfl)) (by kernel_rfl) (by kernel_rfl) (fun _ _ _ h => h) (HS0.out) (Or.inl ⟨by kernel_rfl, ?hy134⟩) ?r134
              case hy134 =>
                intro w hSw
                try dsimp only at hSw
                go_simp
                first | (obtain ⟨y0, ⟨y1', y2, y3⟩, y4, y5⟩ := hSw; go_simp) | skip
                try with_reducible rfl
              try simp only [Act.put, List.getElem_toArray, List.getElem_cons_succ, List.getElem_cons_zero, List.setIfInBounds_toArray, List.set_cons_zero, List.set_cons_succ]
              refine AnyBut.takeS (i := 2) (v := ?v135) rfl (by kernel_rfl) (Nat.le_of_eq (by kernel_rfl)) (by kernel_rfl) (by kernel_rfl) (fun _ _ _ h => h) (HS0.out) (Or.inl ⟨by kernel_rfl, ?hy135⟩) ?r135
              case hy135 =>
                intro w hSw
                try dsimp only at hSw
                go_simp
                first | (obtain ⟨y0, ⟨y1', y2, y3⟩, y4, y5⟩ := hSw; go_simp) | skip
                try with_reducible rfl
              try simp only [Act.put, List.getElem_toArray, List.getElem_cons_succ, List.getElem_cons_zero, List.setIfInBounds_toArray, List.set_cons_zero, List.set_cons_succ]
              refine AnyBut.takeS (i := 3) (v := ?v136) rfl (by kernel_rfl) (Nat.le_of_eq (by kernel_rfl)) (by kernel_rfl) (by kernel_rfl) (fun _ _ _ h => h) (HS0.out) (Or.inl ⟨by kernel_rfl, ?hy136⟩) ?r136
              case hy136 =>
                intro w hSw
                try dsimp only at hSw
                go_simp
                first | (obtain ⟨y0, ⟨y1', y2, y3⟩, y4, y5⟩ := hSw; go_simp) | skip
                try with_reducible rfl
              try simp only [Act.put, List.getElem_toArray, List.getElem_cons_succ, List.getElem_cons_zero, List.setIfInBounds_toArray, List.set_cons_zero, List.set_cons_succ]
              refine AnyBut.takeS (i := 4) (v := ?v137) rfl (by kernel_rfl) (Nat.le_of_eq (by kernel_rfl)) (by kernel_rfl) (by kernel_rfl) (fun _ _ _ h => h) (HS0.out) (Or.inl ⟨by kernel_rfl, ?hy137⟩) ?r137
              case hy137 =>
                intro w hSw
                try dsimp only at hSw
                go_simp
                first | (obtain ⟨y0, ⟨y1', y2, y3⟩, y4, y5⟩ := hSw; go_simp) | skip
                try with_reducible rfl
              try simp only [Act.put, List.getElem_toArray, List.getElem_cons_succ, List.getElem_cons_zero, List.setIfInBounds_toArray, List.set_cons_zero, List.set_cons_succ]
              refine AnyBut.takeS (i := 5) (v := ?v138) rfl (by kernel_rfl) (Nat.le_of_eq (by kernel_rfl)) (by kernel_rfl) (by kernel_rfl) (fun _ _ _ h => h) (HS0.out) (Or.inl ⟨by kernel_rfl, ?hy138⟩) ?r138
              case hy138 =>
                intro w hSw
                try dsimp only at hSw
                go_simp
                first | (obtain ⟨y0, ⟨y1', y2, y3⟩, y4, y5⟩ := hSw; go_simp) | skip
                try with_reducible rfl
              try simp only [Act.put, List.getElem_toArray, List.getElem_cons_succ, List.getElem_cons_zero, List.setIfInBounds_toArray, List.set_cons_zero, List.set_cons_succ]
              refine AnyBut.takeS (i := 6) (v := ?v139) rfl (by kernel_rfl) (Nat.le_of_eq (by kernel_rfl)) (by kernel_rfl) (by kernel_rfl) (fun _ _ _ h => h) (HS0.out) (Or.inl ⟨by kernel_rfl, ?hy139⟩) ?r139
              case hy139 =>
                intro w hSw
                try dsimp only at hSw
                go_simp
                first | (obtain ⟨y0, ⟨y1', y2, y3⟩, y4, y5⟩ := hSw; go_simp) | skip
                try with_reducible rfl
              try simp only [Act.put, List.getElem_toArray, List.getElem_cons_succ, List.getElem_cons_zero, List.setIfInBounds_toArray, List.set_cons_zero, List.set_cons_succ]
              refine AnyBut.takeS (i := 7) (v := ?v140) rfl (by kernel_rfl) (Nat.le_of_eq (by kernel_rfl)) (by kernel_rfl) (by kernel_rfl) (fun _ _ _ h => h) (HS0.out) (Or.inl ⟨by kernel_rfl, ?hy140⟩) ?r140
              case hy140 =>
                intro w hSw
                try dsimp only at hSw
                go_simp
                first | (obtain ⟨y0, ⟨y1', y2, y3⟩, y4, y5⟩ := hSw; go_simp) | skip
                try with_reducible rfl
              try simp only [Act.put, List.getElem_toArray, List.getElem_cons_succ, List.getElem_cons_zero, List.setIfInBounds_toArray, List.set_cons_zero, List.set_cons_succ]
              refine AnyBut.takeS (i := 8) (v := ?v141) rfl (by kernel_rfl) (Nat.le_of_eq (by kernel_rfl)) (by kernel_rfl) (by kernel_rfl) (fun _ _ _ h => h) (HS0.out) (Or.inl ⟨by kernel_rfl, ?hy141⟩) ?r141
              case hy141 =>
                intro w hSw
                try dsimp only at hSw
                go_simp
                first | (obtain ⟨y0, ⟨y1', y2, y3⟩, y4, y5⟩ := hSw; go_simp) | skip
                try with_reducible rfl
              try simp only [Act.put, List.getElem_toArray, List.getElem_cons_succ, List.getElem_cons_zero, List.setIfInBounds_toArray, List.set_cons_zero, List.set_cons_succ]
              refine AnyBut.takeS (i := 9) (v := ?v142) rfl (by kernel_rfl) (Nat.le_of_eq (by kernel_rfl)) (by kernel_rfl) (by kernel_rfl) (fun _ _ _ h => h) (HS0.out) (Or.inl ⟨by kernel_rfl, ?hy142⟩) ?r142
              case hy142 =>
                intro w hSw
                try dsimp only at hSw
                go_simp
                first | (obtain ⟨y0, ⟨y1', y2, y3⟩, y4, y5⟩ := hSw; go_simp) | skip
                try with_reducible rfl
              try simp only [Act.put, List.getElem_toArray, List.getElem_cons_succ, List.getElem_cons_zero, List.setIfInBounds_toArray, List.set_cons_zero, List.set_cons_succ]
              refine AnyBut.takeS (i := 10) (v := ?v143) rfl (by kernel_rfl) (Nat.le_of_eq (by kernel_rfl)) (by kernel_rfl) (by kernel_rfl) (fun _ _ _ h => h) (HS0.out) (Or.inl ⟨by kernel_rfl, ?hy143⟩) ?r143
              case hy143 =>
                intro w hSw
                try dsimp only at hSw
                go_simp
                first | (obtain ⟨y0, ⟨y1', y2, y3⟩, y4, y5⟩ := hSw; go_simp) | skip
                try with_reducible rfl
              try simp only [Act.put, List.getElem_toArray, List.getElem_cons_succ, List.getElem_cons_zero, List.setIfInBounds_toArray, List.set_cons_zero, List.set_cons_succ]
              refine AnyBut.takeS (i := 11) (v := ?v144) rfl (by kernel_rfl) (Nat.le_of_eq (by kernel_rfl)) (by kernel_rfl) (by kernel_rfl) (fun _ _ _ h => h) (HS0.out) (Or.inl ⟨by kernel_rfl, ?hy144⟩) ?r144
              case hy144 =>
                intro w hSw
                try dsimp only at hSw
                go_simp
                first | (obtain ⟨y0, ⟨y1', y2, y3⟩, y4, y5⟩ := hSw; go_simp) | skip
                try with_reducible rfl
              try simp only [Act.put, List.getElem_toArray, List.getElem_cons_succ, List.getElem_cons_zero, List.setIfInBounds_toArray, List.set_cons_zero, List.set_cons_succ]
              refine AnyBut.takeS (i := 12) (v := ?v145) rfl (by kernel_rfl) (Nat.le_of_eq (by kernel_rfl)) (by kernel_rfl) (by kernel_rfl) (fun _ _ _ h => h) (HS0.out) (Or.inl ⟨by kernel_rfl, ?hy145⟩) ?r145
              case hy145 =>
                intro w hSw
                try dsimp only at hSw
                go_simp
                first | (obtain ⟨y0, ⟨y1', y2, y3⟩, y4, y5⟩ := hSw; go_simp) | skip
                try with_reducible rfl
              try simp only [Act.put, List.getElem_toArray, List.getElem_cons_succ, List.getElem_cons_zero, List.setIfInBounds_toArray, List.set_cons_zero, List.set_cons_succ]
              refine AnyBut.takeS (i := 13) (v := ?v146) rfl (by kernel_rfl) (Nat.le_of_eq (by kernel_rfl)) (by kernel_rfl) (by kernel_rfl) (fun _ _ _ h => h) (HS0.out) (Or.inl ⟨by kernel_rfl, ?hy146⟩) ?r146
              case hy146 =>
                intro w hSw
                try dsimp only at hSw
                go_simp
                first | (obtain ⟨y0, ⟨y1', y2, y3⟩, y4, y5⟩ := hSw; go_simp) | skip
                try with_reducible rfl
              try simp only [Act.put, List.getElem_toArray, List.getElem_cons_succ, List.getElem_cons_zero, List.setIfInBounds_toArray, List.set_cons_zero, List.set_cons_succ]
              refine AnyBut.takeS (i := 14) (v := ?v147) rfl (by kernel_rfl) (Nat.le_of_eq (by kernel_rfl)) (by kernel_rfl) (by kernel_rfl) (fun _ _ _ h => h) (HS0.out) (Or.inl ⟨by kernel_rfl, ?hy147⟩) ?r147
              case hy147 =>
                intro w hSw
                try dsimp only at hSw
                go_simp
                first | (obtain ⟨y0, ⟨y1', y2, y3⟩, y4, y5⟩ := hSw; go_simp) | skip
                try with_reducible rfl
              try simp only [Act.put, List.getElem_toArray, List.getElem_cons_succ, List.getElem_cons_zero, List.setIfInBounds_toArray, List.set_cons_zero, List.set_cons_succ]
              refine AnyBut.takeS (i := 15) (v := ?v148) rfl (by kernel_rfl) (Nat.le_of_eq (by kernel_rfl)) (by kernel_rfl) (by kernel_rfl) (fun _ _ _ h => h) (HS0.out) (Or.inl ⟨by kernel_rfl, ?hy148⟩) ?r148
              case hy148 =>
                intro w hSw
                try dsimp only at hSw
                go_simp
                first | (obtain ⟨y0, ⟨y1', y2, y3⟩, y4, y5⟩ := hSw; go_simp) | skip
                try with_reducible rfl
              try simp only [Act.put, List.getElem_toArray, List.getElem_cons_succ, List.getElem_cons_zero, List.setIfInBounds_toArray, List.set_cons_zero, List.set_cons_succ]
              refine AnyBut.takeS (i := 16) (v := ?v149) rfl (by kernel_rfl) (Nat.le_of_eq (by kernel_rfl)) (by kernel_rfl) (by kernel_rfl) (fun _ _ _ h => h) (HS0.out) (Or.inl ⟨by kernel_rfl, ?hy149⟩) ?r149
              case hy149 =>
                intro w hSw
                try dsimp only at hSw
                go_simp
                first | (obtain ⟨y0, ⟨y1', y2, y3⟩, y4, y5⟩ := hSw; go_simp) | skip
                try with_reducible rfl
              try simp only [Act.put, List.getElem_toArray, List.getElem_cons_succ, List.getElem_cons_zero, List.setIfInBounds_toArray, List.set_cons_zero, List.set_cons_succ]
              refine AnyBut.takeS (i := 17) (v := ?v150) rfl (by kernel_rfl) (Nat.le_of_eq (by kernel_rfl)) (by kernel_rfl) (by kernel_rfl) (fun _ _ _ h => h) (HS0.out) (Or.inl ⟨by kernel_rfl, ?hy150⟩) ?r150
              case hy150 =>
                intro w hSw
                try dsimp only at hSw
                go_simp
                first | (obtain ⟨y0, ⟨y1', y2, y3⟩, y4, y5⟩ := hSw; go_simp) | skip
                try with_reducible rfl
              try simp only [Act.put, List.getElem_toArray, List.getElem_cons_succ, List.getElem_cons_zero, List.setIfInBounds_toArray, List.set_cons_zero, List.set_cons_succ]
              refine AnyBut.takeS (i := 18) (v := ?v151) rfl (by kernel_rfl) (Nat.le_of_eq (by kernel_rfl)) (by kernel_rfl) (by kernel_rfl) (fun _ _ _ h => h) (HS0.out) (Or.inl ⟨by kernel_rfl, ?hy151⟩) ?r151
              case hy151 =>
                intro w hSw
                try dsimp only at hSw
                go_simp
                first | (obtain ⟨y0, ⟨y1', y2, y3⟩, y4, y5⟩ := hSw; go_simp) | skip
                try with_reducible rfl
              try simp only [Act.put, List.getElem_toArray, List.getElem_cons_succ, List.getElem_cons_zero, List.setIfInBounds_toArray, List.set_cons_zero, List.set_cons_succ]
              refine AnyBut.takeS (i := 19) (v := ?v152) rfl (by kernel_rfl) (Nat.le_of_eq (by kernel_rfl)) (by kernel_rfl) (by kernel_rfl) (fun _ _ _ h => h) (HS0.out) (Or.inl ⟨by kernel_rfl, ?hy152⟩) ?r152
              case hy152 =>
                intro w hSw
                try dsimp only at hSw
                go_simp
                first | (obtain ⟨y0, ⟨y1', y2, y3⟩, y4, y5⟩ := hSw; go_simp) | skip
                try with_reducible rfl
              try simp only [Act.put, List.getElem_toArray, List.getElem_cons_succ, List.getElem_cons_zero, List.setIfInBounds_toArray, List.set_cons_zero, List.set_cons_succ]
              refine AnyBut.takeS (i := 20) (v := ?v153) rfl (by kernel_rfl) (Nat.le_of_eq (by kernel_rfl)) (by kernel_rfl) (by kernel_rfl) (fun _ _ _ h => h) (HS0.out) (Or.inl ⟨by kernel_rfl, ?hy153⟩) ?r153
              case hy153 =>
                intro w hSw
                try dsimp only at hSw
                go_simp
                first | (obtain ⟨y0, ⟨y1', y2, y3⟩, y4, y5⟩ := hSw; go_simp) | skip
                try with_reducible rfl
              try simp only [Act.put, List.getElem_toArray, List.getElem_cons_succ, List.getElem_cons_zero, List.setIfInBounds_toArray, List.set_cons_zero, List.set_cons_succ]
              refine AnyBut.takeS (i := 21) (v := ?v154) rfl (by kernel_rfl) (Nat.le_of_eq (by kernel_rfl)) (by kernel_rfl) (by kernel_rfl) (fun _ _ _ h => h) (HS0.out) (Or.inl ⟨by kernel_rfl, ?hy154⟩) ?r154
              case hy154 =>
                intro w hSw
                try dsimp only at hSw
                go_simp
                first | (obtain ⟨y0, ⟨y1', y2, y3⟩, y4, y5⟩ := hSw; go_simp) | skip
                try with_reducible rfl
              try simp only [Act.put, List.getElem_toArray, List.getElem_cons_succ, List.getElem_cons_zero, List.setIfInBounds_toArray, List.set_cons_zero, List.set_cons_succ]
              refine AnyBut.takeS (i := 22) (v := ?v155) rfl (by kernel_rfl) (Nat.le_of_eq (by kernel_rfl)) (by kernel_rfl) (by kernel_rfl) (fun _ _ _ h => h) (HS0.out) (Or.inl ⟨by kernel_rfl, ?hy155⟩) ?r155
              case hy155 =>
                intro w hSw
                try dsimp only at hSw
                go_simp
                first | (obtain ⟨y0, ⟨y1', y2, y3⟩, y4, y5⟩ := hSw; go_simp) | skip
                try with_reducible rfl
              try simp only [Act.put, List.getElem_toArray, List.getElem_cons_succ, List.getElem_cons_zero, List.setIfInBounds_toArray, List.set_cons_zero, List.set_cons_succ]
              refine AnyBut.takeS (i := 23) (v := ?v156) rfl (by kernel_rfl) (Nat.le_of_eq (by kernel_rfl)) (by kernel_rfl) (by kernel_rfl) (fun _ _ _ h => h) (HS0.out) (Or.inl ⟨by kernel_rfl, ?hy156⟩) ?r156
              case hy156 =>
                intro w hSw
                try dsimp only at hSw
                go_simp
                first | (obtain ⟨y0, ⟨y1', y2, y3⟩, y4, y5⟩ := hSw; go_simp) | skip
                try with_reducible rfl
              try simp only [Act.put, List.getElem_toArray, List.getElem_cons_succ, List.getElem_cons_zero, List.setIfInBounds_toArray, List.set_cons_zero, List.set_cons_succ]
              refine AnyBut.takeS (i := 24) (v := ?v157) rfl (by kernel_rfl) (Nat.le_of_eq (by kernel_rfl)) (by kernel_rfl) (by kernel_rfl) (fun _ _ _ h => h) (HS0.out) (Or.inl ⟨by kernel_rfl, ?hy157⟩) ?r157
              case hy157 =>
                intro w hSw
                try dsimp only at hSw
                go_simp
                first | (obtain ⟨y0, ⟨y1', y2, y3⟩, y4, y5⟩ := hSw; go_simp) | skip
                try with_reducible rfl
              try simp only [Act.put, List.getElem_toArray, List.getElem_cons_succ, List.getElem_cons_zero, List.setIfInBounds_toArray, List.set_cons_zero, List.set_cons_succ]
              refine AnyBut.takeS (i := 25) (v := ?v158) rfl (by kernel_rfl) (Nat.le_of_eq (by kernel_rfl)) (by kernel_rfl) (by kernel_rfl) (fun _ _ _ h => h) (HS0.out) (Or.inl ⟨by kernel_rfl, ?hy158⟩) ?r158
              case hy158 =>
                intro w hSw
                try dsimp only at hSw
                go_simp
                first | (obtain ⟨y0, ⟨y1', y2, y3⟩, y4, y5⟩ := hSw; go_simp) | skip
                try with_reducible rfl
              try simp only [Act.put, List.getElem_toArray, List.getElem_cons_succ, List.getElem_cons_zero, List.setIfInBounds_toArray, List.set_cons_zero, List.set_cons_succ]
              refine AnyBut.takeS (i := 26) (v := ?v159) rfl (by kernel_rfl) (Nat.le_of_eq (by kernel_rfl)) (by kernel_rfl) (by kernel_rfl) (fun _ _ _ h => h) (HS0.out) (Or.inl ⟨by kernel_rfl, ?hy159⟩) ?r159
              case hy159 =>
                intro w hSw
                try dsimp only at hSw
                go_simp
                first | (obtain ⟨y0, ⟨y1', y2, y3⟩, y4, y5⟩ := hSw; go_simp) | skip
                try with_reducible rfl
              try simp only [Act.put, List.getElem_toArray, List.getElem_cons_succ, List.getElem_cons_zero, List.setIfInBounds_toArray, List.set_cons_zero, List.set_cons_succ]
              refine AnyBut.takeS (i := 27) (v := ?v160) rfl (by kernel_rfl) (Nat.le_of_eq (by kernel_rfl)) (by kernel_rfl) (by kernel_rfl) (fun _ _ _ h => h) (HS0.out) (Or.inl ⟨by kernel_rfl, ?hy160⟩) ?r160
              case hy160 =>
                intro w hSw
                try dsimp only at hSw
                go_simp
                first | (obtain ⟨y0, ⟨y1', y2, y3⟩, y4, y5⟩ := hSw; go_simp) | skip
                try with_reducible rfl
              try simp only [Act.put, List.getElem_toArray, List.getElem_cons_succ, List.getElem_cons_zero, List.setIfInBounds_toArray, List.set_cons_zero, List.set_cons_succ]
              refine AnyBut.takeS (i := 28) (v := ?v161) rfl (by kernel_rfl) (Nat.le_of_eq (by kernel_rfl)) (by kernel_rfl) (by kernel_rfl) (fun _ _ _ h => h) (HS0.out) (Or.inl ⟨by kernel_rfl, ?hy161⟩) ?r161
              case hy161 =>
                intro w hSw
                try dsimp only at hSw
                go_simp
                first | (obtain ⟨y0, ⟨y1', y2, y3⟩, y4, y5⟩ := hSw; go_simp) | skip
                try with_reducible rfl
              try simp only [Act.put, List.getElem_toArray, List.getElem_cons_succ, List.getElem_cons_zero, List.setIfInBounds_toArray, List.set_cons_zero, List.set_cons_succ]
              refine AnyBut.takeS (i := 29) (v := ?v162) rfl (by kernel_rfl) (Nat.le_of_eq (by kernel_rfl)) (by kernel_rfl) (by kernel_rfl) (fun _ _ _ h => h) (HS0.out) (Or.inl ⟨by kernel_rfl, ?hy162⟩) ?r162
              case hy162 =>
                intro w hSw
                try dsimp only at hSw
                go_simp
                first | (obtain ⟨y0, ⟨y1', y2, y3⟩, y4, y5⟩ := hSw; go_simp) | skip
                try with_reducible rfl
              try simp only [Act.put, List.getElem_toArray, List.getElem_cons_succ, List.getElem_cons_zero, List.setIfInBounds_toArray, List.set_cons_zero, List.set_cons_succ]
              refine AnyBut.takeS (i := 30) (v := undef) rfl (by kernel_rfl) (Nat.le_of_eq (by kernel_rfl)) (by kernel_rfl) (by kernel_rfl) (fun _ _ _ h => h) (HS0.out) (Or.inr ⟨by kernel_rfl, rfl⟩) ?r163
              try simp only [Act.put, List.getElem_toArray, List.getElem_cons_succ, List.getElem_cons_zero, List.setIfInBounds_toArray, List.set_cons_zero, List.set_cons_succ]
              refine AnyBut.takeS (i := 31) (v := undef) rfl (by kernel_rfl) (Nat.le_of_eq (by kernel_rfl)) (by kernel_rfl) (by kernel_rfl) (fun _ _ _ h => h) (HS0.out) (Or.inr ⟨by kernel_rfl, rfl⟩) ?r164
              try simp only [Act.put, List.getElem_toArray, List.getElem_cons_succ, List.getElem_cons_zero, List.setIfInBounds_toArray, List.set_cons_zero, List.set_cons_succ]
              refine AnyBut.takeS (i := 32) (v := undef) rfl (by kernel_rfl) (Nat.le_of_eq (by kernel_rfl)) (by kernel_rfl) (by kernel_rfl) (fun _ _ _ h => h) (HS0.out) (Or.inr ⟨by kernel_rfl, rfl⟩) ?r165
              try simp only [Act.put, List.getElem_toArray, List.getElem_cons_succ, List.getElem_cons_zero, List.setIfInBounds_toArray, List.set_cons_zero, List.set_cons_succ]
              refine AnyBut.takeS (i := 33) (v := undef) rfl (by kernel_rfl) (Nat.le_of_eq (by kernel_rfl)) (by kernel_rfl) (by kernel_rfl) (fun _ _ _ h => h) (HS0.out) (Or.inr ⟨by kernel_rfl, rfl⟩) ?r166
              try simp only [Act.put, List.getElem_toArray, List.getElem_cons_succ, List.getElem_cons_zero, List.setIfInBounds_toArray, List.set_cons_zero, List.set_cons_succ]
              refine AnyBut.takeS (i := 34) (v := undef) rfl (by kernel_rfl) (Nat.le_of_eq (by kernel_rfl)) (by kernel_rfl) (by kernel_rfl) (fun _ _ _ h => h) (HS0.out) (Or.inr ⟨by kernel_rfl, rfl⟩) ?r167
              try simp only [Act.put, List.getElem_toArray, List.getElem_cons_succ, List.getElem_cons_zero, List.setIfInBounds_toArray, List.set_cons_zero, List.set_cons_succ]
              refine AnyBut.takeS (i := 35) (v := undef) rfl (by kernel_rfl) (Nat.le_of_eq (by kernel_rfl)) (by kernel_rfl) (by kernel_rfl) (fun _ _ _ h => h) (HS0.out) (Or.inr ⟨by kernel_rfl, rfl⟩) ?r168
              try simp only [Act.put, List.getElem_toArray, List.getElem_cons_succ, List.getElem_cons_zero, List.setIfInBounds_toArray, List.set_cons_zero, List.set_cons_succ]
              refine AnyBut.takeS (i := 36) (v := undef) rfl (by kernel_rfl) (Nat.le_of_eq (by kernel_rfl)) (by kernel_rfl) (by kernel_rfl) (fun _ _ _ h => h) (HS0.out) (Or.inr ⟨by kernel_rfl, rfl⟩) ?r169
              try simp only [Act.put, List.getElem_toArray, List.getElem_cons_succ, List.getElem_cons_zero, List.setIfInBounds_toArray, List.set_cons_zero, List.set_cons_succ]
              refine AnyBut.takeS (i := 37) (v := undef) rfl (by kernel_rfl) (Nat.le_of_eq (by kernel_rfl)) (by kernel_rfl) (by kernel_rfl) (fun _ _ _ h => h) (HS0.out) (Or.inr ⟨by kernel_rfl, rfl⟩) ?r170
              try simp only [Act.put, List.getElem_toArray, List.getElem_cons_succ, List.getElem_cons_zero, List.setIfInBounds_toArray, List.set_cons_zero, List.set_cons_succ]
              refine AnyBut.takeS (i := 38) (v := undef) rfl (by kernel_rfl) (Nat.le_of_eq (by kernel_rfl)) (by kernel_rfl) (by kernel_rfl) (fun _ _ _ h => h) (HS0.out) (Or.inr ⟨by kernel_rfl, rfl⟩) ?r171
              try simp only [Act.put, List.getElem_toArray, List.getElem_cons_succ, List.getElem_cons_zero, List.setIfInBounds_toArray, List.set_cons_zero, List.set_cons_succ]
              refine AnyBut.takeS (i := 39) (v := undef) rfl (by kernel_rfl) (Nat.le_of_eq (by kernel_rfl)) (by kernel_rfl) (by kernel_rfl) (fun _ _ _ h => h) (HS0.out) (Or.inr ⟨by kernel_rfl, rfl⟩) ?r172
              try simp only [Act.put, List.getElem_toArray, List.getElem_cons_succ, List.getElem_cons_zero, List.setIfInBounds_toArray, List.set_cons_zero, List.set_cons_succ]
              refine AnyBut.takeS (i := 40) (v := undef) rfl (by kernel_rfl) (Nat.le_of_eq (by kernel_rfl)) (by kernel_rfl) (by kernel_rfl) (fun _ _ _ h => h) (HS0.out) (Or.inr ⟨by kernel_rfl, rfl⟩) ?r173
              try simp only [Act.put, List.getElem_toArray, List.getElem_cons_succ, List.getElem_cons_zero, List.setIfInBounds_toArray, List.set_cons_zero, List.set_cons_succ]
              refine AnyBut.takeS (i := 41) (v := undef) rfl (by kernel_rfl) (Nat.le_of_eq (by kernel_rfl)) (by kernel_rfl) (by kernel_rfl) (fun _ _ _ h => h) (HS0.out) (Or.inr ⟨by kernel_rfl, rfl⟩) ?r174
              try simp only [Act.put, List.getElem_toArray, List.getElem_cons_succ, List.getElem_cons_zero, List.setIfInBounds_toArray, List.set_cons_zero, List.set_cons_succ]
              refine AnyBut.takeS (i := 42) (v := ?v175) rfl (by kernel_rfl) (Nat.le_of_eq (by kernel_rfl)) (by kernel_rfl) (by kernel_rfl) (fun _ _ _ h => h) (HS0.out) (Or.inl ⟨by kernel_rfl, ?hy175⟩) ?r175
              case hy175 =>
                intro w hSw
                try dsimp only at hSw
                go_simp
                first | (obtain ⟨y0, ⟨y1', y2, y3⟩, y4, y5⟩ := hSw; go_simp) | skip
                try with_reducible rfl
              try simp only [Act.put, List.getElem_toArray, List.getElem_cons_succ, List.getElem_cons_zero, List.setIfInBounds_toArray, List.set_cons_zero, List.set_cons_succ]
              refine AnyBut.takeS (i := 43) (v := ?v176) rfl (by kernel_rfl) (Nat.le_of_eq (by kernel_rfl)) (by kernel_rfl) (by kernel_rfl) (fun _ _ _ h => h) (HS0.out) (Or.inl ⟨by kernel_rfl, ?hy176⟩) ?r176
              case hy176 =>
                intro w hSw
                try dsimp only at hSw
                go_simp
                first | (obtain ⟨y0, ⟨y1', y2, y3⟩, y4, y5⟩ := hSw; go_simp) | skip
                try with_reducible rfl
              try simp only [Act.put, List.getElem_toArray, List.getElem_cons_succ, List.getElem_cons_zero, List.setIfInBounds_toArray, List.set_cons_zero, List.set_cons_succ]
              refine AnyBut.done (by kernel_rfl) ?_
              go_wp2
              go_roundg (m - (i + 1))
              case measure => have := HD.out; omega
              case rel => exact ⟨i + 1, HD.out, rfl, rfl, by rw [HSX.out], HKR.out.trans ((Kept.refl _ _).drew)⟩
            | true =>
              rw [hmo] at r4
              by_cases hlt : x1 < x0
              · have ql : decide (x1 < x0) = true := decide_eq_true hlt
                have q4 := HT4.out ⟨hst, hmo, hlt⟩
                clear hst hmo hlt
                have HS0 : Hid ((fun w' => w'.cell? ⟨go, oo + i * 17 + 16, none⟩ = some (.int .i64 0) ∧ (w'.cell? ⟨gi, oi + i * 17 + 4, none⟩ = some (.bool true) ∧ w'.cell? ⟨gi, oi + i * 17 + 5, none⟩ = some (.int .i64 s1) ∧ w'.cell? ⟨gi, oi + i * 17 + 7, none⟩ = some (.int .i64 x1)) ∧ w'.cell? ⟨gi, oi + j * 17 + 5, none⟩ = some (.int .i64 s0) ∧ w'.cell? ⟨gi, oi + j * 17 + 7, none⟩ = some (.int .i64 x0)) wr.drew) := Lib.hid ⟨t16, ⟨r4, r5, r7⟩, z5, z7⟩
                refine AnyBut.start (S := fun w' => w'.cell? ⟨go, oo + i * 17 + 16, none⟩ = some (.int .i64 0) ∧ (w'.cell? ⟨gi, oi + i * 17 + 4, none⟩ = some (.bool true) ∧ w'.cell? ⟨gi, oi + i * 17 + 5, none⟩ = some (.int .i64 s1) ∧ w'.cell? ⟨gi, oi + i * 17 + 7, none⟩ = some (.int .i64 x1)) ∧ w'.cell? ⟨gi, oi + j * 17 + 5, none⟩ = some (.int .i64 s0) ∧ w'.cell? ⟨gi, oi + j * 17 + 7, none⟩ = some (.int .i64 x0)) (k := 44) (by kernel_rfl) ?_
                refine AnyBut.takeS (i := 0) (v := ?v177) rfl (by kernel_rfl) (Nat.le_of_eq (by kernel_rfl)) (by kernel_rfl) (by kernel_rfl) (fun _ _ _ h => h) (HS0.out) (Or.inl ⟨by kernel_rfl, ?hy177⟩) ?r177
                case hy177 =>
                  intro w hSw
                  try dsimp only at hSw
                  go_simp
                  first | (obtain ⟨y0, ⟨y1', y2, y3⟩, y4, y5⟩ := hSw; go_simp) | skip
                  try with_reducible rfl
                try simp only [Act.put, List.getElem_toArray, List.getElem_cons_zero, List.setIfInBounds_toArray, List.set_cons_zero, List.set_cons_succ]
                refine AnyBut.takeS (i := 1) (v := ?v178) rfl (by kernel_rfl) (Nat.le_of_eq (by kernel_rfl)) (by kernel_rfl) (by kernel_rfl) (fun _ _ _ h => h) (HS0.out) (Or.inl ⟨by kernel_rfl, ?hy178⟩) ?r178
                case hy178 =>
                  intro w hSw
                  try dsimp only at hSw
                  go_simp
                  first | (obtain ⟨y0, ⟨y1', y2, y3⟩, y4, y5⟩ := hSw; go_simp) | skip
                  try with_reducible rfl
                try simp only [Act.put, List.getElem_toArray, List.getElem_cons_succ, List.getElem_cons_zero, List.setIfInBounds_toArray, List.set_cons_zero, List.set_cons_succ]
                refine AnyBut.takeS (i := 2) (v := ?v179) rfl (by kernel_rfl) (Nat.le_of_eq (by kernel_rfl)) (by kernel_rfl) (by kernel_rfl) (fun _ _ _ h => h) (HS0.out) (Or.inl ⟨by kernel_rfl, ?hy179⟩) ?r179
                case hy179 =>
                  intro w hSw
                  try dsimp only at hSw
                  go_simp
                  first | (obtain ⟨y0, ⟨y1', y2, y3⟩, y4, y5⟩ := hSw; go_simp) | skip
                  try with_reducible rfl
                try simp only [Act.put, List.getElem_toArray, List.getElem_cons_succ, List.getElem_cons_zero, List.setIfInBounds_toArray, List.set_cons_zero, List.set_cons_succ]
                refine AnyBut.takeS (i := 3) (v := ?v180) rfl (by kernel_rfl) (Nat.le_of_eq (by kernel_rfl)) (by kernel_rfl) (by kernel_rfl) (fun _ _ _ h => h) (HS0.out) (Or.inl ⟨by kernel_rfl, ?hy180⟩) ?r180
                case hy180 =>
                  intro w hSw
                  try dsimp only at hSw
                  go_simp
                  first | (obtain ⟨y0, ⟨y1', y2, y3⟩, y4, y5⟩ := hSw; go_simp) | skip
                  try with_reducible rfl
                try simp only [Act.put, List.getElem_toArray, List.getElem_cons_succ, List.getElem_cons_zero, List.setIfInBounds_toArray, List.set_cons_zero, List.set_cons_succ]
                refine AnyBut.takeS (i := 4) (v := ?v181) rfl (by kernel_rfl) (Nat.le_of_eq (by kernel_rfl)) (by kernel_rfl) (by kernel_rfl) (fun _ _ _ h => h) (HS0.out) (Or.inl ⟨by kernel_rfl, ?hy181⟩) ?r181
                case hy181 =>
                  intro w hSw
                  try dsimp only at hSw
                  go_simp
                  first | (obtain ⟨y0, ⟨y1', y2, y3⟩, y4, y5⟩ := hSw; go_simp) | skip
                  try with_reducible rfl
                try simp only [Act.put, List.getElem_toArray, List.getElem_cons_succ, List.getElem_cons_zero, List.setIfInBounds_toArray, List.set_cons_zero, List.set_cons_succ]
                refine AnyBut.takeS (i := 5) (v := ?v182) rfl (by kernel_rfl) (Nat.le_of_eq (by kernel_rfl)) (by kernel_rfl) (by kernel_rfl) (fun _ _ _ h => h) (HS0.out) (Or.inl ⟨by kernel_rfl, ?hy182⟩) ?r182
                case hy182 =>
                  intro w hSw
                  try dsimp only at hSw
                  go_simp
                  first | (obtain ⟨y0, ⟨y1', y2, y3⟩, y4, y5⟩ := hSw; go_simp) | skip
                  try with_reducible rfl
                try simp only [Act.put, List.getElem_toArray, List.getElem_cons_succ, List.getElem_cons_zero, List.setIfInBounds_toArray, List.set_cons_zero, List.set_cons_succ]
                refine AnyBut.takeS (i := 6) (v := ?v183) rfl (by kernel_rfl) (Nat.le_of_eq (by kernel_rfl)) (by kernel_rfl) (by kernel_rfl) (fun _ _ _ h => h) (HS0.out) (Or.inl ⟨by kernel_rfl, ?hy183⟩) ?r183
                case hy183 =>
                  intro w hSw
                  try dsimp only at hSw
                  go_simp
                  first | (obtain ⟨y0, ⟨y1', y2, y3⟩, y4, y5⟩ := hSw; go_simp) | skip
                  try with_reducible rfl
                try simp only [Act.put, List.getElem_toArray, List.getElem_cons_succ, List.getElem_cons_zero, List.setIfInBounds_toArray, List.set_cons_zero, List.set_cons_succ]
                refine AnyBut.takeS (i := 7) (v := ?v184) rfl (by kernel_rfl) (Nat.le_of_eq (by kernel_rfl)) (by kernel_rfl) (by kernel_rfl) (fun _ _ _ h => h) (HS0.out) (Or.inl ⟨by kernel_rfl, ?hy184⟩) ?r184
                case hy184 =>
                  intro w hSw
                  try dsimp only at hSw
                  go_simp
                  first | (obtain ⟨y0, ⟨y1', y2, y3⟩, y4, y5⟩ := hSw; go_simp) | skip
                  try with_reducible rfl
                try simp only [Act.put, List.getElem_toArray, List.getElem_cons_succ, List.getElem_cons_zero, List.setIfInBounds_toArray, List.set_cons_zero, List.set_cons_succ]
                refine AnyBut.takeS (i := 8) (v := ?v185) rfl (by kernel_rfl) (Nat.le_of_eq (by kernel_rfl)) (by kernel_rfl) (by kernel_rfl) (fun _ _ _ h => h) (HS0.out) (Or.inl ⟨by kernel_rfl, ?hy185⟩) ?r185
                case hy185 =>
                  intro w hSw
                  try dsimp only at hSw
                  go_simp
                  first | (obtain ⟨y0, ⟨y1', y2, y3⟩, y4, y5⟩ := hSw; go_simp) | skip
                  try with_reducible rfl
                try simp only [Act.put, List.getElem_toArray, List.getElem_cons_succ, List.getElem_cons_zero, List.setIfInBounds_toArray, List.set_cons_zero, List.set_cons_succ]
                refine AnyBut.takeS (i := 9) (v := ?v186) rfl (by kernel_rfl) (Nat.le_of_eq (by kernel_rfl)) (by kernel_rfl) (by kernel_rfl) (fun _ _ _ h => h) (HS0.out) (Or.inl ⟨by kernel_rfl, ?hy186⟩) ?r186
                case hy186 =>
                  intro w hSw
                  try dsimp only at hSw
                  go_simp
                  first | (obtain ⟨y0, ⟨y1', y2, y3⟩, y4, y5⟩ := hSw; go_simp) | skip
                  try with_reducible rfl
                try simp only [Act.put, List.getElem_toArray, List.getElem_cons_succ, List.getElem_cons_zero, List.setIfInBounds_toArray, List.set_cons_zero, List.set_cons_succ]
                refine AnyBut.takeS (i := 10) (v := ?v187) rfl (by kernel_rfl) (Nat.le_of_eq (by kernel_rfl)) (by kernel_rfl) (by kernel_rfl) (fun _ _ _ h => h) (HS0.out) (Or.inl ⟨by kernel_rfl, ?hy187⟩) ?r187
                case hy187 =>
                  intro w hSw
                  try dsimp only at hSw
                  go_simp
                  first | (obtain ⟨y0, ⟨y1', y2, y3⟩, y4, y5⟩ := hSw; go_simp) | skip
                  try with_reducible rfl
                try simp only [Act.put, List.getElem_toArray, List.getElem_cons_succ, List.getElem_cons_zero, List.setIfInBounds_toArray, List.set_cons_zero, List.set_cons_succ]
                refine AnyBut.takeS (i := 11) (v := ?v188) rfl (by kernel_rfl) (Nat.le_of_eq (by kernel_rfl)) (by kernel_rfl) (by kernel_rfl) (fun _ _ _ h => h) (HS0.out) (Or.inl ⟨by kernel_rfl, ?hy188⟩) ?r188
                case hy188 =>
                  intro w hSw
                  try dsimp only at hSw
                  go_simp
                  first | (obtain ⟨y0, ⟨y1', y2, y3⟩, y4, y5⟩ := hSw; go_simp) | skip
                  try with_reducible rfl
                try simp only [Act.put, List.getElem_toArray, List.getElem_cons_succ, List.getElem_cons_zero, List.setIfInBounds_toArray, List.set_cons_zero, List.set_cons_succ]
                refine AnyBut.takeS (i := 12) (v := ?v189) rfl (by kernel_rfl) (Nat.le_of_eq (by kernel_rfl)) (by kernel_rfl) (by kernel_rfl) (fun _ _ _ h => h) (HS0.out) (Or.inl ⟨by kernel_rfl, ?hy189⟩) ?r189
                case hy189 =>
                  intro w hSw
                  try dsimp only at hSw
                  go_simp
                  first | (obtain ⟨y0, ⟨y1', y2, y3⟩, y4, y5⟩ := hSw; go_simp) | skip
                  try with_reducible rfl
                try simp only [Act.put, List.getElem_toArray, List.getElem_cons_succ, List.getElem_cons_zero, List.setIfInBounds_toArray, List.set_cons_zero, List.set_cons_succ]
                refine AnyBut.takeS (i := 13) (v := ?v190) rfl (by kernel_rfl) (Nat.le_of_eq (by kernel_rfl)) (by kernel_rfl) (by kernel_rfl) (fun _ _ _ h => h) (HS0.out) (Or.inl ⟨by kernel_rfl, ?hy190⟩) ?r190
                case hy190 =>
                  intro w hSw
                  try dsimp only at hSw
                  go_simp
                  first | (obtain ⟨y0, ⟨y1', y2, y3⟩, y4, y5⟩ := hSw; go_simp) | skip
                  try with_reducible rfl
                try simp only [Act.put, List.getElem_toArray, List.getElem_cons_succ, List.getElem_cons_zero, List.setIfInBounds_toArray, List.set_cons_zero, List.set_cons_succ]
                refine AnyBut.takeS (i := 14) (v := ?v191) rfl (by kernel_rfl) (Nat.le_of_eq (by kernel_rfl)) (by kernel_rfl) (by kernel_rfl) (fun _ _ _ h => h) (HS0.out) (Or.inl ⟨by kernel_rfl, ?hy191⟩) ?r191
                case hy191 =>
                  intro w hSw
                  try dsimp only at hSw
                  go_simp
                  first | (obtain ⟨y0, ⟨y1', y2, y3⟩, y4, y5⟩ := hSw; go_simp) | skip
                  try with_reducible rfl
                try simp only [Act.put, List.getElem_toArray, List.getElem_cons_succ, List.getElem_cons_zero, List.setIfInBounds_toArray, List.set_cons_zero, List.set_cons_succ]
                refine AnyBut.takeS (i := 15) (v := ?v192) rfl (by kernel_rfl) (Nat.le_of_eq (by kernel_rfl)) (by kernel_rfl) (by kernel_rfl) (fun _ _ _ h => h) (HS0.out) (Or.inl ⟨by kernel_rfl, ?hy192⟩) ?r192
                case hy192 =>
                  intro w hSw
                  try dsimp only at hSw
                  go_simp
                  first | (obtain ⟨y0, ⟨y1', y2, y3⟩, y4, y5⟩ := hSw; go_simp) | skip
                  try with_reducible rfl
                try simp only [Act.put, List.getElem_toArray, List.getElem_cons_succ, List.getElem_cons_zero, List.setIfInBounds_toArray, List.set_cons_zero, List.set_cons_succ]
                refine AnyBut.takeS (i := 16) (v := ?v193) rfl (by kernel_rfl) (Nat.le_of_eq (by kernel_rfl)) (by kernel_rfl) (by kernel_rfl) (fun _ _ _ h => h) (HS0.out) (Or.inl ⟨by kernel_rfl, ?hy193⟩) ?r193
                case hy193 =>
                  intro w hSw
                  try dsimp only at hSw
                  go_simp
                  first | (obtain ⟨y0, ⟨y1', y2, y3⟩, y4, y5⟩ := hSw; go_simp) | skip
                  try with_reducible rfl
                try simp only [Act.put, List.getElem_toArray, List.getElem_cons_succ, List.getElem_cons_zero, List.setIfInBounds_toArray, List.set_cons_zero, List.set_cons_succ]
                refine AnyBut.takeS (i := 17) (v := ?v194) rfl (by kernel_rfl) (Nat.le_of_eq (by kernel_rfl)) (by kernel_rfl) (by kernel_rfl) (fun _ _ _ h => h) (HS0.out) (Or.inl ⟨by kernel_rfl, ?hy194⟩) ?r194
                case hy194 =>
                  intro w hSw
                  try dsimp only at hSw
                  go_simp
                  first | (obtain ⟨y0, ⟨y1', y2, y3⟩, y4, y5⟩ := hSw; go_simp) | skip
                  try with_reducible rfl
                try simp only [Act.put, List.getElem_toArray, List.getElem_cons_succ, List.getElem_cons_zero, List.setIfInBounds_toArray, List.set_cons_zero, List.set_cons_succ]
                refine AnyBut.takeS (i := 18) (v := ?v195) rfl (by kernel_rfl) (Nat.le_of_eq (by kernel_rfl)) (by kernel_rfl) (by kernel_rfl) (fun _ _ _ h => h) (HS0.out) (Or.inl ⟨by kernel_rfl, ?hy195⟩) ?r195
                case hy195 =>
                  intro w hSw
                  try dsimp only at hSw
                  go_simp
                  first | (obtain ⟨y0, ⟨y1', y2, y3⟩, y4, y5⟩ := hSw; go_simp) | skip
                  try with_reducible rfl
                try simp only [Act.put, List.getElem_toArray, List.getElem_cons_succ, List.getElem_cons_zero, List.setIfInBounds_toArray, List.set_cons_zero, List.set_cons_succ]
                refine AnyBut.takeS (i := 19) (v := ?v196) rfl (by kernel_rfl) (Nat.le_of_eq (by kernel_rfl)) (by kernel_rfl) (by kernel_rfl) (fun _ _ _ h => h) (HS0.out) (Or.inl ⟨by kernel_rfl, ?hy196⟩) ?r196
                case hy196 =>
                  intro w hSw
                  try dsimp only at hSw
                  go_simp
                  first | (obtain ⟨y0, ⟨y1', y2, y3⟩, y4, y5⟩ := hSw; go_simp) | skip
                  try with_reducible rfl
                try simp only [Act.put, List.getElem_toArray, List.getElem_cons_succ, List.getElem_cons_zero, List.setIfInBounds_toArray, List.set_cons_zero, List.set_cons_succ]
                refine AnyBut.takeS (i := 20) (v := ?v197) rfl (by kernel_rfl) (Nat.le_of_eq (by kernel_rfl)) (by kernel_rfl) (by kernel_rfl) (fun _ _ _ h => h) (HS0.out) (Or.inl ⟨by kernel_rfl, ?hy197⟩) ?r197
                case hy197 =>
                  intro w hSw
                  try dsimp only at hSw
                  go_simp
                  first | (obtain ⟨y0, ⟨y1', y2, y3⟩, y4, y5⟩ := hSw; go_simp) | skip
                  try with_reducible rfl
                try simp only [Act.put, List.getElem_toArray, List.getElem_cons_succ, List.getElem_cons_zero, List.setIfInBounds_toArray, List.set_cons_zero, List.set_cons_succ]
                refine AnyBut.takeS (i := 21) (v := ?v198) rfl (by kernel_rfl) (Nat.le_of_eq (by kernel_rfl)) (by kernel_rfl) (by kernel_rfl) (fun _ _ _ h => h) (HS0.out) (Or.inl ⟨by kernel_rfl, ?hy198⟩) ?r198
                case hy198 =>
                  intro w hSw
                  try dsimp only at hSw
                  go_simp
                  first | (obtain ⟨y0, ⟨y1', y2, y3⟩, y4, y5⟩ := hSw; go_simp) | skip
                  try with_reducible rfl
                try simp only [Act.put, List.getElem_toArray, List.getElem_cons_succ, List.getElem_cons_zero, List.setIfInBounds_toArray, List.set_cons_zero, List.set_cons_succ]
                refine AnyBut.takeS (i := 22) (v := ?v199) rfl (by kernel_rfl) (Nat.le_of_eq (by kernel_rfl)) (by kernel_rfl) (by kernel_rfl) (fun _ _ _ h => h) (HS0.out) (Or.inl ⟨by kernel_rfl, ?hy199⟩) ?r199
                case hy199 =>
                  intro w hSw
                  try dsimp only at hSw
                  go_simp
                  first | (obtain ⟨y0, ⟨y1', y2, y3⟩, y4, y5⟩ := hSw; go_simp) | skip
                  try with_reducible rfl
                try simp only [Act.put, List.getElem_toArray, List.getElem_cons_succ, List.getElem_cons_zero, List.setIfInBounds_toArray, List.set_cons_zero, List.set_cons_succ]
                refine AnyBut.takeS (i := 23) (v := ?v200) rfl (by kernel_rfl) (Nat.le_of_eq (by kernel_rfl)) (by kernel_rfl) (by kernel_rfl) (fun _ _ _ h => h) (HS0.out) (Or.inl ⟨by kernel_rfl, ?hy200⟩) ?r200
                case hy200 =>
                  intro w hSw
                  try dsimp only at hSw
                  go_simp
                  first | (obtain ⟨y0, ⟨y1', y2, y3⟩, y4, y5⟩ := hSw; go_simp) | skip
                  try with_reducible rfl
                try simp only [Act.put, List.getElem_toArray, List.getElem_cons_succ, List.getElem_cons_zero, List.setIfInBounds_toArray, List.set_cons_zero, List.set_cons_succ]
                refine AnyBut.takeS (i := 24) (v := ?v201) rfl (by kernel_rfl) (Nat.le_of_eq (by kernel_rfl)) (by kernel_rfl) (by kernel_rfl) (fun _ _ _ h => h) (HS0.out) (Or.inl ⟨by kernel_rfl, ?hy201⟩) ?r201
                case hy201 =>
                  intro w hSw
                  try dsimp only at hSw
                  go_simp
                  first | (obtain ⟨y0, ⟨y1', y2, y3⟩, y4, y5⟩ := hSw; go_simp) | skip
                  try with_reducible rfl
                try simp only [Act.put, List.getElem_toArray, List.getElem_cons_succ, List.getElem_cons_zero, List.setIfInBounds_toArray, List.set_cons_zero, List.set_cons_succ]
                refine AnyBut.takeS (i := 25) (v := ?v202) rfl (by kernel_rfl) (Nat.le_of_eq (by kernel_rfl)) (by kernel_rfl) (by kernel_rfl) (fun _ _ _ h => h) (HS0.out) (Or.inl ⟨by kernel_rfl, ?hy202⟩) ?r202
                case hy202 =>
                  intro w hSw
                  try dsimp only at hSw
                  go_simp
                  first | (obtain ⟨y0, ⟨y1', y2, y3⟩, y4, y5⟩ := hSw; go_simp) | skip
                  try with_reducible rfl
                try simp only [Act.put, List.getElem_toArray, List.getElem_cons_succ, List.getElem_cons_zero, List.setIfInBounds_toArray, List.set_cons_zero, List.set_cons_succ]
                refine AnyBut.takeS (i := 26) (v := ?v203) rfl (by kernel_rfl) (Nat.le_of_eq (by kernel_rfl)) (by kernel_rfl) (by kernel_rfl) (fun _ _ _ h => h) (HS0.out) (Or.inl ⟨by kernel_rfl, ?hy203⟩) ?r203
                case hy203 =>
                  intro w hSw
                  try dsimp only at hSw
                  go_simp
                  first | (obtain ⟨y0, ⟨y1', y2, y3⟩, y4, y5⟩ := hSw; go_simp) | skip
                  try with_reducible rfl
                try simp only [Act.put, List.getElem_toArray, List.getElem_cons_succ, List.getElem_cons_zero, List.setIfInBounds_toArray, List.set_cons_zero, List.set_cons_succ]
                refine AnyBut.takeS (i := 27) (v := ?v204) rfl (by kernel_rfl) (Nat.le_of_eq (by kernel_rfl)) (by kernel_rfl) (by kernel_rfl) (fun _ _ _ h => h) (HS0.out) (Or.inl ⟨by kernel_rfl, ?hy204⟩) ?r204
                case hy204 =>
                  intro w hSw
                  try dsimp only at hSw
                  go_simp
                  first | (obtain ⟨y0, ⟨y1', y2, y3⟩, y4, y5⟩ := hSw; go_simp) | skip
                  try with_reducible rfl
                try simp only [Act.put, List.getElem_toArray, List.getElem_cons_succ, List.getElem_cons_zero, List.setIfInBounds_toArray, List.set_cons_zero, List.set_cons_succ]
                refine AnyBut.takeS (i := 28) (v := ?v205) rfl (by kernel_rfl) (Nat.le_of_eq (by kernel_rfl)) (by kernel_rfl) (by kernel_rfl) (fun _ _ _ h => h) (HS0.out) (Or.inl ⟨by kernel_rfl, ?hy205⟩) ?r205
                case hy205 =>
                  intro w hSw
                  try dsimp only at hSw
                  go_simp
                  first | (obtain ⟨y0, ⟨y1', y2, y3⟩, y4, y5⟩ := hSw; go_simp) | skip
                  try with_reducible rfl
                try simp only [Act.put, List.getElem_toArray, List.getElem_cons_succ, List.getElem_cons_zero, List.setIfInBounds_toArray, List.set_cons_zero, List.set_cons_succ]
                refine AnyBut.takeS (i := 29) (v := ?v206) rfl (by kernel_rfl) (Nat.le_of_eq (by kernel_rfl)) (by kernel_rfl) (by kernel_rfl) (fun _ _ _ h => h) (HS0.out) (Or.inl ⟨by kernel_rfl, ?hy206⟩) ?r206
                case hy206 =>
                  intro w hSw
                  try dsimp only at hSw
                  go_simp
                  first | (obtain ⟨y0, ⟨y1', y2, y3⟩, y4, y5⟩ := hSw; go_simp) | skip
                  try with_reducible rfl
                try simp only [Act.put, List.getElem_toArray, List.getElem_cons_succ, List.getElem_cons_zero, List.setIfInBounds_toArray, List.set_cons_zero, List.set_cons_succ]
                refine AnyBut.takeS (i := 30) (v := ?v207) rfl (by kernel_rfl) (Nat.le_of_eq (by kernel_rfl)) (by kernel_rfl) (by kernel_rfl) (fun _ _ _ h => h) (HS0.out) (Or.inl ⟨by kernel_rfl, ?hy207⟩) ?r207
                case hy207 =>
                  intro w hSw
                  try dsimp only at hSw
                  go_simp
                  first | (obtain ⟨y0, ⟨y1', y2, y3⟩, y4, y5⟩ := hSw; go_simp) | skip
                  try with_reducible rfl
                try simp only [Act.put, List.getElem_toArray, List.getElem_cons_succ, List.getElem_cons_zero, List.setIfInBounds_toArray, List.set_cons_zero, List.set_cons_succ]
                refine AnyBut.takeS (i := 31) (v := ?v208) rfl (by kernel_rfl) (Nat.le_of_eq (by kernel_rfl)) (by kernel_rfl) (by kernel_rfl) (fun _ _ _ h => h) (HS0.out) (Or.inl ⟨by kernel_rfl, ?hy208⟩) ?r208
                case hy208 =>
                  intro w hSw
                  try dsimp only at hSw
                  go_simp
                  first | (obtain ⟨y0, ⟨y1', y2, y3⟩, y4, y5⟩ := hSw; go_simp) | skip
                  try with_reducible rfl
                try simp only [Act.put, List.getElem_toArray, List.getElem_cons_succ, List.getElem_cons_zero, List.setIfInBounds_toArray, List.set_cons_zero, List.set_cons_succ]
                refine AnyBut.takeS (i := 32) (v := ?v209) rfl (by kernel_rfl) (Nat.le_of_eq (by kernel_rfl)) (by kernel_rfl) (by kernel_rfl) (fun _ _ _ h => h) (HS0.out) (Or.inl ⟨by kernel_rfl, ?hy209⟩) ?r209
                case hy209 =>
                  intro w hSw
                  try dsimp only at hSw
                  go_simp
                  first | (obtain ⟨y0, ⟨y1', y2, y3⟩, y4, y5⟩ := hSw; go_simp) | skip
                  try with_reducible rfl
                try simp only [Act.put, List.getElem_toArray, List.getElem_cons_succ, List.getElem_cons_zero, List.setIfInBounds_toArray, List.set_cons_zero, List.set_cons_succ]
                refine AnyBut.takeS (i := 33) (v := ?v210) rfl (by kernel_rfl) (Nat.le_of_eq (by kernel_rfl)) (by kernel_rfl) (by kernel_rfl) (fun _ _ _ h => h) (HS0.out) (Or.inl ⟨by kernel_rfl, ?hy210⟩) ?r210
                case hy210 =>
                  intro w hSw
                  try dsimp only at hSw
                  go_simp
                  first | (obtain ⟨y0, ⟨y1', y2, y3⟩, y4, y5⟩ := hSw; go_simp) | skip
                  try with_reducible rfl
                try simp only [Act.put, List.getElem_toArray, List.getElem_cons_succ, List.getElem_cons_zero, List.setIfInBounds_toArray, List.set_cons_zero, List.set_cons_succ]
                refine AnyBut.takeS (i := 34) (v := ?v211) rfl (by kernel_rfl) (Nat.le_of_eq (by kernel_rfl)) (by kernel_rfl) (by kernel_rfl) (fun _ _ _ h => h) (HS0.out) (Or.inl ⟨by kernel_rfl, ?hy211⟩) ?r211
                case hy211 =>
                  intro w hSw
                  try dsimp only at hSw
                  go_simp
                  first | (obtain ⟨y0, ⟨y1', y2, y3⟩, y4, y5⟩ := hSw; go_simp) | skip
                  try with_reducible rfl
                try simp only [Act.put, List.getElem_toArray, List.getElem_cons_succ, List.getElem_cons_zero, List.setIfInBounds_toArray, List.set_cons_zero, List.set_cons_succ]
                refine AnyBut.takeS (i := 35) (v := ?v212) rfl (by kernel_rfl) (Nat.le_of_eq (by kernel_rfl)) (by kernel_rfl) (by kernel_rfl) (fun _ _ _ h => h) (HS0.out) (Or.inl ⟨by kernel_rfl, ?hy212⟩) ?r212
                case hy212 =>
                  intro w hSw
                  try dsimp only at hSw
                  go_simp
                  first | (obtain ⟨y0, ⟨y1', y2, y3⟩, y4, y5⟩ := hSw; go_simp) | skip
                  try with_reducible rfl
                try simp only [Act.put, List.getElem_toArray, List.getElem_cons_succ, List.getElem_cons_zero, List.setIfInBounds_toArray, List.set_cons_zero, List.set_cons_succ]
                refine AnyBut.takeS (i := 36) (v := ?v213) rfl (by kernel_rfl) (Nat.le_of_eq (by kernel_rfl)) (by kernel_rfl) (by kernel_rfl) (fun _ _ _ h => h) (HS0.out) (Or.inl ⟨by kernel_rfl, ?hy213⟩) ?r213
                case hy213 =>
                  intro w hSw
                  try dsimp only at hSw
                  go_simp
                  first | (obtain ⟨y0, ⟨y1', y2, y3⟩, y4, y5⟩ := hSw; go_simp) | skip
                  try with_reducible rfl
                try simp only [Act.put, List.getElem_toArray, List.getElem_cons_succ, List.getElem_cons_zero, List.setIfInBounds_toArray, List.set_cons_zero, List.set_cons_succ]
                refine AnyBut.takeS (i := 37) (v := ?v214) rfl (by kernel_rfl) (Nat.le_of_eq (by kernel_rfl)) (by kernel_rfl) (by kernel_rfl) (fun _ _ _ h => h) (HS0.out) (Or.inl ⟨by kernel_rfl, ?hy214⟩) ?r214
                case hy214 =>
                  intro w hSw
                  try dsimp only at hSw
                  go_simp
                  first | (obtain ⟨y0, ⟨y1', y2, y3⟩, y4, y5⟩ := hSw; go_simp) | skip
                  try with_reducible rfl
                try simp only [Act.put, List.getElem_toArray, List.getElem_cons_succ, List.getElem_cons_zero, List.setIfInBounds_toArray, List.set_cons_zero, List.set_cons_succ]
                refine AnyBut.takeS (i := 38) (v := ?v215) rfl (by kernel_rfl) (Nat.le_of_eq (by kernel_rfl)) (by kernel_rfl) (by kernel_rfl) (fun _ _ _ h => h) (HS0.out) (Or.inl ⟨by kernel_rfl, ?hy215⟩) ?r215
                case hy215 =>
                  intro w hSw
                  try dsimp only at hSw
                  go_simp
                  first | (obtain ⟨y0, ⟨y1', y2, y3⟩, y4, y5⟩ := hSw; go_simp) | skip
                  try with_reducible rfl
                try simp only [Act.put, List.getElem_toArray, List.getElem_cons_succ, List.getElem_cons_zero, List.setIfInBounds_toArray, List.set_cons_zero, List.set_cons_succ]
                refine AnyBut.takeS (i := 39) (v := ?v216) rfl (by kernel_rfl) (Nat.le_of_eq (by kernel_rfl)) (by kernel_rfl) (by kernel_rfl) (fun _ _ _ h => h) (HS0.out) (Or.inl ⟨by kernel_rfl, ?hy216⟩) ?r216
                case hy216 =>
                  intro w hSw
                  try dsimp only at hSw
                  go_simp
                  first | (obtain ⟨y0, ⟨y1', y2, y3⟩, y4, y5⟩ := hSw; go_simp) | skip
                  try with_reducible rfl
                try simp only [Act.put, List.getElem_toArray, List.getElem_cons_succ, List.getElem_cons_zero, List.setIfInBounds_toArray, List.set_cons_zero, List.set_cons_succ]
                refine AnyBut.takeS (i := 40) (v := ?v217) rfl (by kernel_rfl) (Nat.le_of_eq (by kernel_rfl)) (by kernel_rfl) (by kernel_rfl) (fun _ _ _ h => h) (HS0.out) (Or.inl ⟨by kernel_rfl, ?hy217⟩) ?r217
                case hy217 =>
                  intro w hSw
                  try dsimp only at hSw
                  go_simp
                  first | (obtain ⟨y0, ⟨y1', y2, y3⟩, y4, y5⟩ := hSw; go_simp) | skip
                  try with_reducible rfl
                try simp only [Act.put, List.getElem_toArray, List.getElem_cons_succ, List.getElem_cons_zero, List.setIfInBounds_toArray, List.set_cons_zero, List.set_cons_succ]
                refine AnyBut.takeS (i := 41) (v := ?v218) rfl (by kernel_rfl) (Nat.le_of_eq (by kernel_rfl)) (by kernel_rfl) (by kernel_rfl) (fun _ _ _ h => h) (HS0.out) (Or.inl ⟨by kernel_rfl, ?hy218⟩) ?r218
                case hy218 =>
                  intro w hSw
                  try dsimp only at hSw
                  go_simp
                  first | (obtain ⟨y0, ⟨y1', y2, y3⟩, y4, y5⟩ := hSw; go_simp) | skip
                  try with_reducible rfl
                try simp only [Act.put, List.getElem_toArray, List.getElem_cons_succ, List.getElem_cons_zero, List.setIfInBounds_toArray, List.set_cons_zero, List.set_cons_succ]
                refine AnyBut.takeS (i := 42) (v := ?v219) rfl (by kernel_rfl) (Nat.le_of_eq (by kernel_rfl)) (by kernel_rfl) (by kernel_rfl) (fun _ _ _ h => h) (HS0.out) (Or.inl ⟨by kernel_rfl, ?hy219⟩) ?r219
                case hy219 =>
                  intro w hSw
                  try dsimp only at hSw
                  go_simp
                  first | (obtain ⟨y0, ⟨y1', y2, y3⟩, y4, y5⟩ := hSw; go_simp) | skip
                  try with_reducible rfl
                try simp only [Act.put, List.getElem_toArray, List.getElem_cons_succ, List.getElem_cons_zero, List.setIfInBounds_toArray, List.set_cons_zero, List.set_cons_succ]
                refine AnyBut.takeS (i := 43) (v := ?v220) rfl (by kernel_rfl) (Nat.le_of_eq (by kernel_rfl)) (by kernel_rfl) (by kernel_rfl) (fun _ _ _ h => h) (HS0.out) (Or.inl ⟨by kernel_rfl, ?hy220⟩) ?r220
                case hy220 =>
                  intro w hSw
                  try dsimp only at hSw
                  go_simp
                  first | (obtain ⟨y0, ⟨y1', y2, y3⟩, y4, y5⟩ := hSw; go_simp) | skip
                  try with_reducible rfl
                try simp only [Act.put, List.getElem_toArray, List.getElem_cons_succ, List.getElem_cons_zero, List.setIfInBounds_toArray, List.set_cons_zero, List.set_cons_succ]
                refine AnyBut.done (by kernel_rfl) ?_
                go_wp2
                go_roundg (m - (i + 1))
                case measure => have := HD.out; omega
                case rel => exact ⟨i + 1, HD.out, rfl, rfl, by rw [HSX.out], HKR.out.trans ((Kept.refl _ _).drew)⟩
              · have ql : decide (x1 < x0) = false := decide_eq_false hlt
                have q4 := HF4.out (fun h => hlt h.2.2)
                clear hst hmo hlt
                have HS0 : Hid ((fun w' => w'.cell? ⟨go, oo + i * 17 + 16, none⟩ = some (.int .i64 0) ∧ (w'.cell? ⟨gi, oi + i * 17 + 4, none⟩ = some (.bool true) ∧ w'.cell? ⟨gi, oi + i * 17 + 5, none⟩ = some (.int .i64 s1) ∧ w'.cell? ⟨gi, oi + i * 17 + 7, none⟩ = some (.int .i64 x1)) ∧ w'.cell? ⟨gi, oi + j * 17 + 5, none⟩ = some (.int .i64 s0) ∧ w'.cell? ⟨gi, oi + j * 17 + 7, none⟩ = some (.int .i64 x0)) wr.drew) := Lib.hid ⟨t16, ⟨r4, r5, r7⟩, z5, z7⟩
                refine AnyBut.start (S := fun w' => w'.cell? ⟨go, oo + i * 17 + 16, none⟩ = some (.int .i64 0) ∧ (w'.cell? ⟨gi, oi + i * 17 + 4, none⟩ = some (.bool true) ∧ w'.cell? ⟨gi, oi + i * 17 + 5, none⟩ = some (.int .i64 s1) ∧ w'.cell? ⟨gi, oi + i * 17 + 7, none⟩ = some (.int .i64 x1)) ∧ w'.cell? ⟨gi, oi + j * 17 + 5, none⟩ = some (.int .i64 s0) ∧ w'.cell? ⟨gi, oi + j * 17 + 7, none⟩ = some (.int .i64 x0)) (k := 44) (by kernel_rfl) ?_
                refine AnyBut.takeS (i := 0) (v := ?v221) rfl (by kernel_rfl) (Nat.le_of_eq (by kernel_rfl)) (by kernel_rfl) (by kernel_rfl) (fun _ _ _ h => h) (HS0.out) (Or.inl ⟨by kernel_rfl, ?hy221⟩) ?r221
                case hy221 =>
                  intro w hSw
                  try dsimp only at hSw
                  go_simp
                  first | (obtain ⟨y0, ⟨y1', y2, y3⟩, y4, y5⟩ := hSw; go_simp) | skip
                  try with_reducible rfl
                try simp only [Act.put, List.getElem_toArray, List.getElem_cons_zero, List.setIfInBounds_toArray, List.set_cons_zero, List.set_cons_succ]
                refine AnyBut.takeS (i := 1) (v := ?v222) rfl (by kernel_rfl) (Nat.le_of_eq (by kernel_rfl)) (by kernel_rfl) (by kernel_rfl) (fun _ _ _ h => h) (HS0.out) (Or.inl ⟨by kernel_rfl, ?hy222⟩) ?r222
                case hy222 =>
                  intro w hSw
                  try dsimp only at hSw
                  go_simp
                  first | (obtain ⟨y0, ⟨y1', y2, y3⟩, y4, y5⟩ := hSw; go_simp) | skip
                  try with_reducible rfl
                try simp only [Act.put, List.getElem_toArray, List.getElem_cons_succ, List.getElem_cons_zero, List.setIfInBounds_toArray, List.set_cons_zero, List.set_cons_succ]
                refine AnyBut.takeS (i := 2) (v := ?v223) rfl (by kernel_rfl) (Nat.le_of_eq (by kernel_rfl)) (by kernel_rfl) (by kernel_rfl) (fun _ _ _ h => h) (HS0.out) (Or.inl ⟨by kernel_rfl, ?hy223⟩) ?r223
                case hy223 =>
                  intro w hSw
                  try dsimp only at hSw
                  go_simp
                  first | (obtain ⟨y0, ⟨y1', y2, y3⟩, y4, y5⟩ := hSw; go_simp) | skip
                  try with_reducible rfl
                try simp only [Act.put, List.getElem_toArray, List.getElem_cons_succ, List.getElem_cons_zero, List.setIfInBounds_toArray, List.set_cons_zero, List.set_cons_succ]
                refine AnyBut.takeS (i := 3) (v := ?v224) rfl (by kernel_rfl) (Nat.le_of_eq (by kernel_rfl)) (by kernel_rfl) (by kernel_rfl) (fun _ _ _ h => h) (HS0.out) (Or.inl ⟨by kernel_rfl, ?hy224⟩) ?r224
                case hy224 =>
                  intro w hSw
                  try dsimp only at hSw
                  go_simp
                  first | (obtain ⟨y0, ⟨y1', y2, y3⟩, y4, y5⟩ := hSw; go_simp) | skip
                  try with_reducible rfl
                try simp only [Act.put, List.getElem_toArray, List.getElem_cons_succ, List.getElem_cons_zero, List.setIfInBounds_toArray, List.set_cons_zero, List.set_cons_succ]
                refine AnyBut.takeS (i := 4) (v := ?v225) rfl (by kernel_rfl) (Nat.le_of_eq (by kernel_rfl)) (by kernel_rfl) (by kernel_rfl) (fun _ _ _ h => h) (HS0.out) (Or.inl ⟨by kernel_rfl, ?hy225⟩) ?r225
                case hy225 =>
                  intro w hSw
                  try dsimp only at hSw
                  go_simp
                  first | (obtain ⟨y0, ⟨y1', y2, y3⟩, y4, y5⟩ := hSw; go_simp) | skip
                  try with_reducible rfl
                try simp only [Act.put, List.getElem_toArray, List.getElem_cons_succ, List.getElem_cons_zero, List.setIfInBounds_toArray, List.set_cons_zero, List.set_cons_succ]
                refine AnyBut.takeS (i := 5) (v := ?v226) rfl (by kernel_rfl) (Nat.le_of_eq (by kernel_rfl)) (by kernel_rfl) (by kernel_rfl) (fun _ _ _ h => h) (HS0.out) (Or.inl ⟨by kernel_rfl, ?hy226⟩) ?r226
                case hy226 =>
                  intro w hSw
                  try dsimp only at hSw
                  go_simp
                  first | (obtain ⟨y0, ⟨y1', y2, y3⟩, y4, y5⟩ := hSw; go_simp) | skip
                  try with_reducible rfl
                try simp only [Act.put, List.getElem_toArray, List.getElem_cons_succ, List.getElem_cons_zero, List.setIfInBounds_toArray, List.set_cons_zero, List.set_cons_succ]
                refine AnyBut.takeS (i := 6) (v := ?v227) rfl (by kernel_rfl) (Nat.le_of_eq (by kernel_rfl)) (by kernel_rfl) (by kernel_rfl) (fun _ _ _ h => h) (HS0.out) (Or.inl ⟨by kernel_rfl, ?hy227⟩) ?r227
                case hy227 =>
                  intro w hSw
                  try dsimp only at hSw
                  go_simp
                  first | (obtain ⟨y0, ⟨y1', y2, y3⟩, y4, y5⟩ := hSw; go_simp) | skip
                  try with_reducible rfl
                try simp only [Act.put, List.getElem_toArray, List.getElem_cons_succ, List.getElem_cons_zero, List.setIfInBounds_toArray, List.set_cons_zero, List.set_cons_succ]
                refine AnyBut.takeS (i := 7) (v := ?v228) rfl (by kernel_rfl) (Nat.le_of_eq (by kernel_rfl)) (by kernel_rfl) (by kernel_rfl) (fun _ _ _ h => h) (HS0.out) (Or.inl ⟨by kernel_rfl, ?hy228⟩) ?r228
                case hy228 =>
                  intro w hSw
                  try dsimp only at hSw
                  go_simp
                  first | (obtain ⟨y0, ⟨y1', y2, y3⟩, y4, y5⟩ := hSw; go_simp) | skip
                  try with_reducible rfl
                try simp only [Act.put, List.getElem_toArray, List.getElem_cons_succ, List.getElem_cons_zero, List.setIfInBounds_toArray, List.set_cons_zero, List.set_cons_succ]
                refine AnyBut.takeS (i := 8) (v := ?v229) rfl (by kernel_rfl) (Nat.le_of_eq (by kernel_rfl)) (by kernel_rfl) (by kernel_rfl) (fun _ _ _ h => h) (HS0.out) (Or.inl ⟨by kernel_rfl, ?hy229⟩) ?r229
                case hy229 =>
                  intro w hSw
                  try dsimp only at hSw
                  go_simp
                  first | (obtain ⟨y0, ⟨y1', y2, y3⟩, y4, y5⟩ := hSw; go_simp) | skip
                  try with_reducible rfl
                try simp only [Act.put, List.getElem_toArray, List.getElem_cons_succ, List.getElem_cons_zero, List.setIfInBounds_toArray, List.set_cons_zero, List.set_cons_succ]
                refine AnyBut.takeS (i := 9) (v := ?v230) rfl (by kernel_rfl) (Nat.le_of_eq (by kernel_rfl)) (by kernel_rfl) (by kernel_rfl) (fun _ _ _ h => h) (HS0.out) (Or.inl ⟨by kernel_rfl, ?hy230⟩) ?r230
                case hy230 =>
                  intro w hSw
                  try dsimp only at hSw
                  go_simp
                  first | (obtain ⟨y0, ⟨y1', y2, y3⟩, y4, y5⟩ := hSw; go_simp) | skip
                  try with_reducible rfl
                try simp only [Act.put, List.getElem_toArray, List.getElem_cons_succ, List.getElem_cons_zero, List.setIfInBounds_toArray, List.set_cons_zero, List.set_cons_succ]
                refine AnyBut.takeS (i := 10) (v := ?v231) rfl (by kernel_rfl) (Nat.le_of_eq (by kernel_rfl)) (by kernel_rfl) (by kernel_rfl) (fun _ _ _ h => h) (HS0.out) (Or.inl ⟨by kernel_rfl, ?hy231⟩) ?r231
                case hy231 =>
                  intro w hSw
                  try dsimp only at hSw
                  go_simp
                  first | (obtain ⟨y0, ⟨y1', y2, y3⟩, y4, y5⟩ := hSw; go_simp) | skip
                  try with_reducible rfl
                try simp only [Act.put, List.getElem_toArray, List.getElem_cons_succ, List.getElem_cons_zero, List.setIfInBounds_toArray, List.set_cons_zero, List.set_cons_succ]
                refine AnyBut.takeS (i := 11) (v := ?v232) rfl (by kernel_rfl) (Nat.le_of_eq (by kernel_rfl)) (by kernel_rfl) (by kernel_rfl) (fun _ _ _ h => h) (HS0.out) (Or.inl ⟨by kernel_rfl, ?hy232⟩) ?r232
                case hy232 =>
                  intro w hSw
                  try dsimp only at hSw
                  go_simp
                  first | (obtain ⟨y0, ⟨y1', y2, y3⟩, y4, y5⟩ := hSw; go_simp) | skip
                  try with_reducible rfl
                try simp only [Act.put, List.getElem_toArray, List.getElem_cons_succ, List.getElem_cons_zero, List.setIfInBounds_toArray, List.set_cons_zero, List.set_cons_succ]
                refine AnyBut.takeS (i := 12) (v := ?v233) rfl (by kernel_rfl) (Nat.le_of_eq (by kernel_rfl)) (by kernel_rfl) (by kernel_rfl) (fun _ _ _ h => h) (HS0.out) (Or.inl ⟨by kernel_rfl, ?hy233⟩) ?r233
                case hy233 =>
                  intro w hSw
                  try dsimp only at hSw
                  go_simp
                  first | (obtain ⟨y0, ⟨y1', y2, y3⟩, y4, y5⟩ := hSw; go_simp) | skip
                  try with_reducible rfl
                try simp only [Act.put, List.getElem_toArray, List.getElem_cons_succ, List.getElem_cons_zero, List.setIfInBounds_toArray, List.set_cons_zero, List.set_cons_succ]
                refine AnyBut.takeS (i := 13) (v := ?v234) rfl (by kernel_rfl) (Nat.le_of_eq (by kernel_rfl)) (by kernel_rfl) (by kernel_rfl) (fun _ _ _ h => h) (HS0.out) (Or.inl ⟨by kernel_rfl, ?hy234⟩) ?r234
                case hy234 =>
                  intro w hSw
                  try dsimp only at hSw
                  go_simp
                  first | (obtain ⟨y0, ⟨y1', y2, y3⟩, y4, y5⟩ := hSw; go_simp) | skip
                  try with_reducible rfl
                try simp only [Act.put, List.getElem_toArray, List.getElem_cons_succ, List.getElem_cons_zero, List.setIfInBounds_toArray, List.set_cons_zero, List.set_cons_succ]
                refine AnyBut.takeS (i := 14) (v := ?v235) rfl (by kernel_rfl) (Nat.le_of_eq (by kernel_rfl)) (by kernel_rfl) (by kernel_rfl) (fun _ _ _ h => h) (HS0.out) (Or.inl ⟨by kernel_rfl, ?hy235⟩) ?r235
                case hy235 =>
                  intro w hSw
                  try dsimp only at hSw
                  go_simp
                  first | (obtain ⟨y0, ⟨y1', y2, y3⟩, y4, y5⟩ := hSw; go_simp) | skip
                  try with_reducible rfl
                try simp only [Act.put, List.getElem_toArray, List.getElem_cons_succ, List.getElem_cons_zero, List.setIfInBounds_toArray, List.set_cons_zero, List.set_cons_succ]
                refine AnyBut.takeS (i := 15) (v := ?v236) rfl (by kernel_rfl) (Nat.le_of_eq (by kernel_rfl)) (by kernel_rfl) (by kernel_rfl) (fun _ _ _ h => h) (HS0.out) (Or.inl ⟨by kernel_rfl, ?hy236⟩) ?r236
                case hy236 =>
                  intro w hSw
                  try dsimp only at hSw
                  go_simp
                  first | (obtain ⟨y0, ⟨y1', y2, y3⟩, y4, y5⟩ := hSw; go_simp) | skip
                  try with_reducible rfl
                try simp only [Act.put, List.getElem_toArray, List.getElem_cons_succ, List.getElem_cons_zero, List.setIfInBounds_toArray, List.set_cons_zero, List.set_cons_succ]
                refine AnyBut.takeS (i := 16) (v := ?v237) rfl (by kernel_rfl) (Nat.le_of_eq (by kernel_rfl)) (by kernel_rfl) (by kernel_rfl) (fun _ _ _ h => h) (HS0.out) (Or.inl ⟨by kernel_rfl, ?hy237⟩) ?r237
                case hy237 =>
                  intro w hSw
                  try dsimp only at hSw
                  go_simp
                  first | (obtain ⟨y0, ⟨y1', y2, y3⟩, y4, y5⟩ := hSw; go_simp) | skip
                  try with_reducible rfl
                try simp only [Act.put, List.getElem_toArray, List.getElem_cons_succ, List.getElem_cons_zero, List.setIfInBounds_toArray, List.set_cons_zero, List.set_cons_succ]
                refine AnyBut.takeS (i := 17) (v := ?v238) rfl (by kernel_rfl) (Nat.le_of_eq (by kernel_rfl)) (by kernel_rfl) (by kernel_rfl) (fun _ _ _ h => h) (HS0.out) (Or.inl ⟨by kernel_rfl, ?hy238⟩) ?r238
                case hy238 =>
                  intro w hSw
                  try dsimp only at hSw
                  go_simp
                  first | (obtain ⟨y0, ⟨y1', y2, y3⟩, y4, y5⟩ := hSw; go_simp) | skip
                  try with_reducible rfl
                try simp only [Act.put, List.getElem_toArray, List.getElem_cons_succ, List.getElem_cons_zero, List.setIfInBounds_toArray, List.set_cons_zero, List.set_cons_succ]
                refine AnyBut.takeS (i := 18) (v := ?v239) rfl (by kernel_rfl) (Nat.le_of_eq (by kernel_rfl)) (by kernel_rfl) (by kernel_rfl) (fun _ _ _ h => h) (HS0.out) (Or.inl ⟨by kernel_rfl, ?hy239⟩) ?r239
                case hy239 =>
                  intro w hSw
                  try dsimp only at hSw
                  go_simp
                  first | (obtain ⟨y0, ⟨y1', y2, y3⟩, y4, y5⟩ := hSw; go_simp) | skip
                  try with_reducible rfl
                try simp only [Act.put, List.getElem_toArray, List.getElem_cons_succ, List.getElem_cons_zero, List.setIfInBounds_toArray, List.set_cons_zero, List.set_cons_succ]
                refine AnyBut.takeS (i := 19) (v := ?v240) rfl (by kernel_rfl) (Nat.le_of_eq (by kernel_rfl)) (by kernel_rfl) (by kernel_rfl) (fun _ _ _ h => h) (HS0.out) (Or.inl ⟨by kernel_rfl, ?hy240⟩) ?r240
                case hy240 =>
                  intro w hSw
                  try dsimp only at hSw
                  go_simp
                  first | (obtain ⟨y0, ⟨y1', y2, y3⟩, y4, y5⟩ := hSw; go_simp) | skip
                  try with_reducible rfl
                try simp only [Act.put, List.getElem_toArray, List.getElem_cons_succ, List.getElem_cons_zero, List.setIfInBounds_toArray, List.set_cons_zero, List.set_cons_succ]
                refine AnyBut.takeS (i := 20) (v := ?v241) rfl (by kernel_rfl) (Nat.le_of_eq (by kernel_rfl)) (by kernel_rfl) (by kernel_rfl) (fun _ _ _ h => h) (HS0.out) (Or.inl ⟨by kernel_rfl, ?hy241⟩) ?r241
                case hy241 =>
                  intro w hSw
                  try dsimp only at hSw
                  go_simp
                  first | (obtain ⟨y0, ⟨y1', y2, y3⟩, y4, y5⟩ := hSw; go_simp) | skip
                  try with_reducible rfl
                try simp only [Act.put, List.getElem_toArray, List.getElem_cons_succ, List.getElem_cons_zero, List.setIfInBounds_toArray, List.set_cons_zero, List.set_cons_succ]
                refine AnyBut.takeS (i := 21) (v := ?v242) rfl (by kernel_rfl) (Nat.le_of_eq (by kernel_rfl)) (by kernel_rfl) (by kernel_rfl) (fun _ _ _ h => h) (HS0.out) (Or.inl ⟨by kernel_rfl, ?hy242⟩) ?r242
                case hy242 =>
                  intro w hSw
                  try dsimp only at hSw
                  go_simp
                  first | (obtain ⟨y0, ⟨y1', y2, y3⟩, y4, y5⟩ := hSw; go_simp) | skip
                  try with_reducible rfl
                try simp only [Act.put, List.getElem_toArray, List.getElem_cons_succ, List.getElem_cons_zero, List.setIfInBounds_toArray, List.set_cons_zero, List.set_cons_succ]
                refine AnyBut.takeS (i := 22) (v := ?v243) rfl (by kernel_rfl) (Nat.le_of_eq (by kernel_rfl)) (by kernel_rfl) (by kernel_rfl) (fun _ _ _ h => h) (HS0.out) (Or.inl ⟨by kernel_rfl, ?hy243⟩) ?r243
                case hy243 =>
                  intro w hSw
                  try dsimp only at hSw
                  go_simp
                  first | (obtain ⟨y0, ⟨y1', y2, y3⟩, y4, y5⟩ := hSw; go_simp) | skip
                  try with_reducible rfl
                try simp only [Act.put, List.getElem_toArray, List.getElem_cons_succ, List.getElem_cons_zero, List.setIfInBounds_toArray, List.set_cons_zero, List.set_cons_succ]
                refine AnyBut.takeS (i := 23) (v := ?v244) rfl (by kernel_rfl) (Nat.le_of_eq (by kernel_rfl)) (by kernel_rfl) (by kernel_rfl) (fun _ _ _ h => h) (HS0.out) (Or.inl ⟨by kernel_rfl, ?hy244⟩) ?r244
                case hy244 =>
                  intro w hSw
                  try dsimp only at hSw
                  go_simp
                  first | (obtain ⟨y0, ⟨y1', y2, y3⟩, y4, y5⟩ := hSw; go_simp) | skip
                  try with_reducible rfl
                try simp only [Act.put, List.getElem_toArray, List.getElem_cons_succ, List.getElem_cons_zero, List.setIfInBounds_toArray, List.set_cons_zero, List.set_cons_succ]
                refine AnyBut.takeS (i := 24) (v := ?v245) rfl (by kernel_rfl) (Nat.le_of_eq (by kernel_rfl)) (by kernel_rfl) (by kernel_rfl) (fun _ _ _ h => h) (HS0.out) (Or.inl ⟨by kernel_rfl, ?hy245⟩) ?r245
                case hy245 =>
                  intro w hSw
                  try dsimp only at hSw
                  go_simp
                  first | (obtain ⟨y0, ⟨y1', y2, y3⟩, y4, y5⟩ := hSw; go_simp) | skip
                  try with_reducible rfl
                try simp only [Act.put, List.getElem_toArray, List.getElem_cons_succ, List.getElem_cons_zero, List.setIfInBounds_toArray, List.set_cons_zero, List.set_cons_succ]
                refine AnyBut.takeS (i := 25) (v := ?v246) rfl (by kernel_rfl) (Nat.le_of_eq (by kernel_rfl)) (by kernel_rfl) (by kernel_rfl) (fun _ _ _ h => h) (HS0.out) (Or.inl ⟨by kernel_rfl, ?hy246⟩) ?r246
                case hy246 =>
                  intro w hSw
                  try dsimp only at hSw
                  go_simp
                  first | (obtain ⟨y0, ⟨y1', y2, y3⟩, y4, y5⟩ := hSw; go_simp) | skip
                  try with_reducible rfl
                try simp only [Act.put, List.getElem_toArray, List.getElem_cons_succ, List.getElem_cons_zero, List.setIfInBounds_toArray, List.set_cons_zero, List.set_cons_succ]
                refine AnyBut.takeS (i := 26) (v := ?v247) rfl (by kernel_rfl) (Nat.le_of_eq (by kernel_rfl)) (by kernel_rfl) (by kernel_rfl) (fun _ _ _ h => h) (HS0.out) (Or.inl ⟨by kernel_rfl, ?hy247⟩) ?r247
                case hy247 =>
                  intro w hSw
                  try dsimp only at hSw
                  go_simp
                  first | (obtain ⟨y0, ⟨y1', y2, y3⟩, y4, y5⟩ := hSw; go_simp) | skip
                  try with_reducible rfl
                try simp only [Act.put, List.getElem_toArray, List.getElem_cons_succ, List.getElem_cons_zero, List.setIfInBounds_toArray, List.set_cons_zero, List.set_cons_succ]
                refine AnyBut.takeS (i := 27) (v := ?v248) rfl (by kernel_rfl) (Nat.le_of_eq (by kernel_rfl)) (by kernel_rfl) (by kernel_rfl) (fun _ _ _ h => h) (HS0.out) (Or.inl ⟨by kernel_rfl, ?hy248⟩) ?r248
                case hy248 =>
                  intro w hSw
                  try dsimp only at hSw
                  go_simp
                  first | (obtain ⟨y0, ⟨y1', y2, y3⟩, y4, y5⟩ := hSw; go_simp) | skip
                  try with_reducible rfl
                try simp only [Act.put, List.getElem_toArray, List.getElem_cons_succ, List.getElem_cons_zero, List.setIfInBounds_toArray, List.set_cons_zero, List.set_cons_succ]
                refine AnyBut.takeS (i := 28) (v := ?v249) rfl (by kernel_rfl) (Nat.le_of_eq (by kernel_rfl)) (by kernel_rfl) (by kernel_rfl) (fun _ _ _ h => h) (HS0.out) (Or.inl ⟨by kernel_rfl, ?hy249⟩) ?r249
                case hy249 =>
                  intro w hSw
                  try dsimp only at hSw
                  go_simp
                  first | (obtain ⟨y0, ⟨y1', y2, y3⟩, y4, y5⟩ := hSw; go_simp) | skip
                  try with_reducible rfl
                try simp only [Act.put, List.getElem_toArray, List.getElem_cons_succ, List.getElem_cons_zero, List.setIfInBounds_toArray, List.set_cons_zero, List.set_cons_succ]
                refine AnyBut.takeS (i := 29) (v := ?v250) rfl (by kernel_rfl) (Nat.le_of_eq (by kernel_rfl)) (by kernel_rfl) (by kernel_rfl) (fun _ _ _ h => h) (HS0.out) (Or.inl ⟨by kernel_rfl, ?hy250⟩) ?r250
                case hy250 =>
                  intro w hSw
                  try dsimp only at hSw
                  go_simp
                  first | (obtain ⟨y0, ⟨y1', y2, y3⟩, y4, y5⟩ := hSw; go_simp) | skip
                  try with_reducible rfl
                try simp only [Act.put, List.getElem_toArray, List.getElem_cons_succ, List.getElem_cons_zero, List.setIfInBounds_toArray, List.set_cons_zero, List.set_cons_succ]
                refine AnyBut.takeS (i := 30) (v := ?v251) rfl (by kernel_rfl) (Nat.le_of_eq (by kernel_rfl)) (by kernel_rfl) (by kernel_rfl) (fun _ _ _ h => h) (HS0.out) (Or.inl ⟨by kernel_rfl, ?hy251⟩) ?r251
                case hy251 =>
                  intro w hSw
                  try dsimp only at hSw
                  go_simp
                  first | (obtain ⟨y0, ⟨y1', y2, y3⟩, y4, y5⟩ := hSw; go_simp) | skip
                  try with_reducible rfl
                try simp only [Act.put, List.getElem_toArray, List.getElem_cons_succ, List.getElem_cons_zero, List.setIfInBounds_toArray, List.set_cons_zero, List.set_cons_succ]
                refine AnyBut.takeS (i := 31) (v := ?v252) rfl (by kernel_rfl) (Nat.le_of_eq (by kernel_rfl)) (by kernel_rfl) (by kernel_rfl) (fun _ _ _ h => h) (HS0.out) (Or.inl ⟨by kernel_rfl, ?hy252⟩) ?r252
                case hy252 =>
                  intro w hSw
                  try dsimp only at hSw
                  go_simp
                  first | (obtain ⟨y0, ⟨y1', y2, y3⟩, y4, y5⟩ := hSw; go_simp) | skip
                  try with_reducible rfl
                try simp only [Act.put, List.getElem_toArray, List.getElem_cons_succ, List.getElem_cons_zero, List.setIfInBounds_toArray, List.set_cons_zero, List.set_cons_succ]
                refine AnyBut.takeS (i := 32) (v := ?v253) rfl (by kernel_rfl) (Nat.le_of_eq (by kernel_rfl)) (by kernel_rfl) (by kernel_rfl) (fun _ _ _ h => h) (HS0.out) (Or.inl ⟨by kernel_rfl, ?hy253⟩) ?r253
                case hy253 =>
                  intro w hSw
                  try dsimp only at hSw
                  go_simp
                  first | (obtain ⟨y0, ⟨y1', y2, y3⟩, y4, y5⟩ := hSw; go_simp) | skip
                  try with_reducible rfl
                try simp only [Act.put, List.getElem_toArray, List.getElem_cons_succ, List.getElem_cons_zero, List.setIfInBounds_toArray, List.set_cons_zero, List.set_cons_succ]
                refine AnyBut.takeS (i := 33) (v := ?v254) rfl (by kernel_rfl) (Nat.le_of_eq (by kernel_rfl)) (by kernel_rfl) (by kernel_rfl) (fun _ _ _ h => h) (HS0.out) (Or.inl ⟨by kernel_rfl, ?hy254⟩) ?r254
                case hy254 =>
                  intro w hSw
                  try dsimp only at hSw
                  go_simp
                  first | (obtain ⟨y0, ⟨y1', y2, y3⟩, y4, y5⟩ := hSw; go_simp) | skip
                  try with_reducible rfl
                try simp only [Act.put, List.getElem_toArray, List.getElem_cons_succ, List.getElem_cons_zero, List.setIfInBounds_toArray, List.set_cons_zero, List.set_cons_succ]
                refine AnyBut.takeS (i := 34) (v := ?v255) rfl (by kernel_rfl) (Nat.le_of_eq (by kernel_rfl)) (by kernel_rfl) (by kernel_rfl) (fun _ _ _ h => h) (HS0.out) (Or.inl ⟨by kernel_rfl, ?hy255⟩) ?r255
                case hy255 =>
                  intro w hSw
                  try dsimp only at hSw
                  go_simp
                  first | (obtain ⟨y0, ⟨y1', y2, y3⟩, y4, y5⟩ := hSw; go_simp) | skip
                  try with_reducible rfl
                try simp only [Act.put, List.getElem_toArray, List.getElem_cons_succ, List.getElem_cons_zero, List.setIfInBounds_toArray, List.set_cons_zero, List.set_cons_succ]
                refine AnyBut.takeS (i := 35) (v := ?v256) rfl (by kernel_rfl) (Nat.le_of_eq (by kernel_rfl)) (by kernel_rfl) (by kernel_rfl) (fun _ _ _ h => h) (HS0.out) (Or.inl ⟨by kernel_rfl, ?hy256⟩) ?r256
                case hy256 =>
                  intro w hSw
                  try dsimp only at hSw
                  go_simp
                  first | (obtain ⟨y0, ⟨y1', y2, y3⟩, y4, y5⟩ := hSw; go_simp) | skip
                  try with_reducible rfl
                try simp only [Act.put, List.getElem_toArray, List.getElem_cons_succ, List.getElem_cons_zero, List.setIfInBounds_toArray, List.set_cons_zero, List.set_cons_succ]
                refine AnyBut.takeS (i := 36) (v := ?v257) rfl (by kernel_rfl) (Nat.le_of_eq (by kernel_rfl)) (by kernel_rfl) (by kernel_rfl) (fun _ _ _ h => h) (HS0.out) (Or.inl ⟨by kernel_rfl, ?hy257⟩) ?r257
                case hy257 =>
                  intro w hSw
                  try dsimp only at hSw
                  go_simp
                  first | (obtain ⟨y0, ⟨y1', y2, y3⟩, y4, y5⟩ := hSw; go_simp) | skip
                  try with_reducible rfl
                try simp only [Act.put, List.getElem_toArray, List.getElem_cons_succ, List.getElem_cons_zero, List.setIfInBounds_toArray, List.set_cons_zero, List.set_cons_succ]
                refine AnyBut.takeS (i := 37) (v := ?v258) rfl (by kernel_rfl) (Nat.le_of_eq (by kernel_rfl)) (by kernel_rfl) (by kernel_rfl) (fun _ _ _ h => h) (HS0.out) (Or.inl ⟨by kernel_rfl, ?hy258⟩) ?r258
                case hy258 =>
                  intro w hSw
                  try dsimp only at hSw
                  go_simp
                  first | (obtain ⟨y0, ⟨y1', y2, y3⟩, y4, y5⟩ := hSw; go_simp) | skip
                  try with_reducible rfl
                try simp only [Act.put, List.getElem_toArray, List.getElem_cons_succ, List.getElem_cons_zero, List.setIfInBounds_toArray, List.set_cons_zero, List.set_cons_succ]
                refine AnyBut.takeS (i := 38) (v := ?v259) rfl (by kernel_rfl) (Nat.le_of_eq (by kernel_rfl)) (by kernel_rfl) (by kernel_rfl) (fun _ _ _ h => h) (HS0.out) (Or.inl ⟨by kernel_rfl, ?hy259⟩) ?r259
                case hy259 =>
                  intro w hSw
                  try dsimp only at hSw
                  go_simp
                  first | (obtain ⟨y0, ⟨y1', y2, y3⟩, y4, y5⟩ := hSw; go_simp) | skip
                  try with_reducible rfl
                try simp only [Act.put, List.getElem_toArray, List.getElem_cons_succ, List.getElem_cons_zero, List.setIfInBounds_toArray, List.set_cons_zero, List.set_cons_succ]
                refine AnyBut.takeS (i := 39) (v := ?v260) rfl (by kernel_rfl) (Nat.le_of_eq (by kernel_rfl)) (by kernel_rfl) (by kernel_rfl) (fun _ _ _ h => h) (HS0.out) (Or.inl ⟨by kernel_rfl, ?hy260⟩) ?r260
                case hy260 =>
                  intro w hSw
                  try dsimp only at hSw
                  go_simp
                  first | (obtain ⟨y0, ⟨y1', y2, y3⟩, y4, y5⟩ := hSw; go_simp) | skip
                  try with_reducible rfl
                try simp only [Act.put, List.getElem_toArray, List.getElem_cons_succ, List.getElem_cons_zero, List.setIfInBounds_toArray, List.set_cons_zero, List.set_cons_succ]
                refine AnyBut.takeS (i := 40) (v := ?v261) rfl (by kernel_rfl) (Nat.le_of_eq (by kernel_rfl)) (by kernel_rfl) (by kernel_rfl) (fun _ _ _ h => h) (HS0.out) (Or.inl ⟨by kernel_rfl, ?hy261⟩) ?r261
                case hy261 =>
                  intro w hSw
                  try dsimp only at hSw
                  go_simp
                  first | (obtain ⟨y0, ⟨y1', y2, y3⟩, y4, y5⟩ := hSw; go_simp) | skip
                  try with_reducible rfl
                try simp only [Act.put, List.getElem_toArray, List.getElem_cons_succ, List.getElem_cons_zero, List.setIfInBounds_toArray, List.set_cons_zero, List.set_cons_succ]
                refine AnyBut.takeS (i := 41) (v := ?v262) rfl (by kernel_rfl) (Nat.le_of_eq (by kernel_rfl)) (by kernel_rfl) (by kernel_rfl) (fun _ _ _ h => h) (HS0.out) (Or.inl ⟨by kernel_rfl, ?hy262⟩) ?r262
                case hy262 =>
                  intro w hSw
                  try dsimp only at hSw
                  go_simp
                  first | (obtain ⟨y0, ⟨y1', y2, y3⟩, y4, y5⟩ := hSw; go_simp) | skip
                  try with_reducible rfl
                try simp only [Act.put, List.getElem_toArray, List.getElem_cons_succ, List.getElem_cons_zero, List.setIfInBounds_toArray, List.set_cons_zero, List.set_cons_succ]
                refine AnyBut.takeS (i := 42) (v := ?v263) rfl (by kernel_rfl) (Nat.le_of_eq (by kernel_rfl)) (by kernel_rfl) (by kernel_rfl) (fun _ _ _ h => h) (HS0.out) (Or.inl ⟨by kernel_rfl, ?hy263⟩) ?r263
                case hy263 =>
                  intro w hSw
                  try dsimp only at hSw
                  go_simp
                  first | (obtain ⟨y0, ⟨y1', y2, y3⟩, y4, y5⟩ := hSw; go_simp) | skip
                  try with_reducible rfl
                try simp only [Act.put, List.getElem_toArray, List.getElem_cons_succ, List.getElem_cons_zero, List.setIfInBounds_toArray, List.set_cons_zero, List.set_cons_succ]
                refine AnyBut.takeS (i := 43) (v := ?v264) rfl (by kernel_rfl) (Nat.le_of_eq (by kernel_rfl)) (by kernel_rfl) (by kernel_rfl) (fun _ _ _ h => h) (HS0.out) (Or.inl ⟨by kernel_rfl, ?hy264⟩) ?r264
                case hy264 =>
                  intro w hSw
                  try dsimp only at hSw
                  go_simp
                  first | (obtain ⟨y0, ⟨y1', y2, y3⟩, y4, y5⟩ := hSw; go_simp) | skip
                  try with_reducible rfl
                try simp only [Act.put, List.getElem_toArray, List.getElem_cons_succ, List.getElem_cons_zero, List.setIfInBounds_toArray, List.set_cons_zero, List.set_cons_succ]
                refine AnyBut.done (by kernel_rfl) ?_
                go_wp2
                go_roundg (m - (i + 1))
                case measure => have := HD.out; omega
                case rel => exact ⟨i + 1, HD.out, rfl, rfl, by rw [HSX.out], HKR.out.trans ((Kept.refl _ _).drew)⟩
          · have hf' : (fl == 0) = false := by rw [beq_eq_false_iff_ne]; exact hf
            have q1 : (fl != 0) = true := by rw [bne_iff_ne]; exact hf
            rw [if_neg hf] at HW0 wz
            rw [Int.zero_add] at wz
            clear hf
            go_wp2_with fail
            refine (HW0.out _).mono ?_
            rintro e wq ⟨rfl, rfl⟩
            go_upto_region 17 with fail
            by_cases hst : s1 = s0
            case neg =>
              have qs : (s1 == s0) = false := by rw [beq_eq_false_iff_ne]; exact hst
              have q4 := HF4.out (fun h => hst h.1)
              clear hst
              have HS0 : Hid ((fun w' => w'.cell? ⟨go, oo + i * 17 + 16, none⟩ = some (.int .i64 fl) ∧ (w'.cell? ⟨gi, oi + i * 17 + 4, none⟩ = some (.bool mo) ∧ w'.cell? ⟨gi, oi + i * 17 + 5, none⟩ = some (.int .i64 s1) ∧ w'.cell? ⟨gi, oi + i * 17 + 7, none⟩ = some (.int .i64 x1)) ∧ w'.cell? ⟨gi, oi + j * 17 + 5, none⟩ = some (.int .i64 s0) ∧ w'.cell? ⟨gi, oi + j * 17 + 7, none⟩ = some (.int .i64 x0)) wr.drew) := Lib.hid ⟨t16, ⟨r4, r5, r7⟩, z5, z7⟩
              refine AnyBut.start (S := fun w' => w'.cell? ⟨go, oo + i * 17 + 16, none⟩ = some (.int .i64 fl) ∧ (w'.cell? ⟨gi, oi + i * 17 + 4, none⟩ = some (.bool mo) ∧ w'.cell? ⟨gi, oi + i * 17 + 5, none⟩ = some (.int .i64 s1) ∧ w'.cell? ⟨gi, oi + i * 17 + 7, none⟩ = some (.int .i64 x1)) ∧ w'.cell? ⟨gi, oi + j * 17 + 5, none⟩ = some (.int .i64 s0) ∧ w'.cell? ⟨gi, oi + j * 17 + 7, none⟩ = some (.int .i64 x0)) (k := 44) (by kernel_rfl) ?_
              refine AnyBut.takeS (i := 0) (v := ?v265) rfl (by kernel_rfl) (Nat.le_of_eq (by kernel_rfl)) (by kernel_rfl) (by kernel_rfl) (fun _ _ _ h => h) (HS0.out) (Or.inl ⟨by kernel_rfl, ?hy265⟩) ?r265
              case hy265 =>
                intro w hSw
                try dsimp only at hSw
                go_simp
                first | (obtain ⟨y0, ⟨y1', y2, y3⟩, y4, y5⟩ := hSw; go_simp) | skip
                try with_reducible rfl
              try simp only [Act.put, List.getElem_toArray, List.getElem_cons_zero, List.setIfInBounds_toArray, List.set_cons_zero, List.set_cons_succ]
              refine AnyBut.takeS (i := 1) (v := ?v266) rfl (by kernel_rfl) (Nat.le_of_eq (by kernel_rfl)) (by kernel_rfl) (by kernel_rfl) (fun _ _ _ h => h) (HS0.out) (Or.inl ⟨by kernel_rfl, ?hy266⟩) ?r266
              case hy266 =>
                intro w hSw
                try dsimp only at hSw
                go_simp
                first | (obtain ⟨y0, ⟨y1', y2, y3⟩, y4, y5⟩ := hSw; go_simp) | skip
                try with_reducible rfl
              try simp only [Act.put, List.getElem_toArray, List.getElem_cons_succ, List.getElem_cons_zero, List.setIfInBounds_toArray, List.set_cons_zero, List.set_cons_succ]
              refine AnyBut.takeS (i := 2) (v := ?v267) rfl (by kernel_rfl) (Nat.le_of_eq (by kernel_rfl)) (by kernel_rfl) (by kernel_rfl) (fun _ _ _ h => h) (HS0.out) (Or.inl ⟨by kernel_rfl, ?hy267⟩) ?r267
              case hy267 =>
                intro w hSw
                try dsimp only at hSw
                go_simp
                first | (obtain ⟨y0, ⟨y1', y2, y3⟩, y4, y5⟩ := hSw; go_simp) | skip
                try with_reducible rfl
              try simp only [Act.put, List.getElem_toArray, List.getElem_cons_succ, List.getElem_cons_zero, List.setIfInBounds_toArray, List.set_cons_zero, List.set_cons_succ]
              refine AnyBut.takeS (i := 3) (v := ?v268) rfl (by kernel_rfl) (Nat.le_of_eq (by kernel_rfl)) (by kernel_rfl) (by kernel_rfl) (fun _ _ _ h => h) (HS0.out) (Or.inl ⟨by kernel_rfl, ?hy268⟩) ?r268
              case hy268 =>
                intro w hSw
                try dsimp only at hSw
                go_simp
                first | (obtain ⟨y0, ⟨y1', y2, y3⟩, y4, y5⟩ := hSw; go_simp) | skip
                try with_reducible rfl
              try simp only [Act.put, List.getElem_toArray, List.getElem_cons_succ, List.getElem_cons_zero, List.setIfInBounds_toArray, List.set_cons_zero, List.set_cons_succ]
              refine AnyBut.takeS (i := 4) (v := ?v269) rfl (by kernel_rfl) (Nat.le_of_eq (by kernel_rfl)) (by kernel_rfl) (by kernel_rfl) (fun _ _ _ h => h) (HS0.out) (Or.inl ⟨by kernel_rfl, ?hy269⟩) ?r269
              case hy269 =>
                intro w hSw
                try dsimp only at hSw
                go_simp
                first | (obtain ⟨y0, ⟨y1', y2, y3⟩, y4, y5⟩ := hSw; go_simp) | skip
                try with_reducible rfl
              try simp only [Act.put, List.getElem_toArray, List.getElem_cons_succ, List.getElem_cons_zero, List.setIfInBounds_toArray, List.set_cons_zero, List.set_cons_succ]
              refine AnyBut.takeS (i := 5) (v := ?v270) rfl (by kernel_rfl) (Nat.le_of_eq (by kernel_rfl)) (by kernel_rfl) (by kernel_rfl) (fun _ _ _ h => h) (HS0.out) (Or.inl ⟨by kernel_rfl, ?hy270⟩) ?r270
              case hy270 =>
                intro w hSw
                try dsimp only at hSw
                go_simp
                first | (obtain ⟨y0, ⟨y1', y2, y3⟩, y4, y5⟩ := hSw; go_simp) | skip
                try with_reducible rfl
              try simp only [Act.put, List.getElem_toArray, List.getElem_cons_succ, List.getElem_cons_zero, List.setIfInBounds_toArray, List.set_cons_zero, List.set_cons_succ]
              refine AnyBut.takeS (i := 6) (v := ?v271) rfl (by kernel_rfl) (Nat.le_of_eq (by kernel_rfl)) (by kernel_rfl) (by kernel_rfl) (fun _ _ _ h => h) (HS0.out) (Or.inl ⟨by kernel_rfl, ?hy271⟩) ?r271
              case hy271 =>
                intro w hSw
                try dsimp only at hSw
                go_simp
                first | (obtain ⟨y0, ⟨y1', y2, y3⟩, y4, y5⟩ := hSw; go_simp) | skip
                try with_reducible rfl
              try simp only [Act.put, List.getElem_toArray, List.getElem_cons_succ, List.getElem_cons_zero, List.setIfInBounds_toArray, List.set_cons_zero, List.set_cons_succ]
              refine AnyBut.takeS (i := 7) (v := ?v272) rfl (by kernel_rfl) (Nat.le_of_eq (by kernel_rfl)) (by kernel_rfl) (by kernel_rfl) (fun _ _ _ h => h) (HS0.out) (Or.inl ⟨by kernel_rfl, ?hy272⟩) ?r272
              case hy272 =>
                intro w hSw
                try dsimp only at hSw
                go_simp
                first | (obtain ⟨y0, ⟨y1', y2, y3⟩, y4, y5⟩ := hSw; go_simp) | skip
                try with_reducible rfl
              try simp only [Act.put, List.getElem_toArray, List.getElem_cons_succ, List.getElem_cons_zero, List.setIfInBounds_toArray, List.set_cons_zero, List.set_cons_succ]
              refine AnyBut.takeS (i := 8) (v := ?v273) rfl (by kernel_rfl) (Nat.le_of_eq (by kernel_rfl)) (by kernel_rfl) (by kernel_rfl) (fun _ _ _ h => h) (HS0.out) (Or.inl ⟨by kernel_rfl, ?hy273⟩) ?r273
              case hy273 =>
                intro w hSw
                try dsimp only at hSw
                go_simp
                first | (obtain ⟨y0, ⟨y1', y2, y3⟩, y4, y5⟩ := hSw; go_simp) | skip
                try with_reducible rfl
              try simp only [Act.put, List.getElem_toArray, List.getElem_cons_succ, List.getElem_cons_zero, List.setIfInBounds_toArray, List.set_cons_zero, List.set_cons_succ]
              refine AnyBut.takeS (i := 9) (v := ?v274) rfl (by kernel_rfl) (Nat.le_of_eq (by kernel_rfl)) (by kernel_rfl) (by kernel_rfl) (fun _ _ _ h => h) (HS0.out) (Or.inl ⟨by kernel_rfl, ?hy274⟩) ?r274
              case hy274 =>
                intro w hSw
                try dsimp only at hSw
                go_simp
                first | (obtain ⟨y0, ⟨y1', y2, y3⟩, y4, y5⟩ := hSw; go_simp) | skip
                try with_reducible rfl
              try simp only [Act.put, List.getElem_toArray, List.getElem_cons_succ, List.getElem_cons_zero, List.setIfInBounds_toArray, List.set_cons_zero, List.set_cons_succ]
              refine AnyBut.takeS (i := 10) (v := ?v275) rfl (by kernel_rfl) (Nat.le_of_eq (by kernel_rfl)) (by kernel_rfl) (by kernel_rfl) (fun _ _ _ h => h) (HS0.out) (Or.inl ⟨by kernel_rfl, ?hy275⟩) ?r275
              case hy275 =>
                intro w hSw
                try dsimp only at hSw
                go_simp
                first | (obtain ⟨y0, ⟨y1', y2, y3⟩, y4, y5⟩ := hSw; go_simp) | skip
                try with_reducible rfl
              try simp only [Act.put, List.getElem_toArray, List.getElem_cons_succ, List.getElem_cons_zero, List.setIfInBounds_toArray, List.set_cons_zero, List.set_cons_succ]
              refine AnyBut.takeS (i := 11) (v := ?v276) rfl (by kernel_rfl) (Nat.le_of_eq (by kernel_rfl)) (by kernel_rfl) (by kernel_rfl) (fun _ _ _ h => h) (HS0.out) (Or.inl ⟨by kernel_rfl, ?hy276⟩) ?r276
              case hy276 =>
                intro w hSw
                try dsimp only at hSw
                go_simp
                first | (obtain ⟨y0, ⟨y1', y2, y3⟩, y4, y5⟩ := hSw; go_simp) | skip
                try with_reducible rfl
              try simp only [Act.put, List.getElem_toArray, List.getElem_cons_succ, List.getElem_cons_zero, List.setIfInBounds_toArray, List.set_cons_zero, List.set_cons_succ]
              refine AnyBut.takeS (i := 12) (v := ?v277) rfl (by kernel_rfl) (Nat.le_of_eq (by kernel_rfl)) (by kernel_rfl) (by kernel_rfl) (fun _ _ _ h => h) (HS0.out) (Or.inl ⟨by kernel_rfl, ?hy277⟩) ?r277
              case hy277 =>
                intro w hSw
                try dsimp only at hSw
                go_simp
                first | (obtain ⟨y0, ⟨y1', y2, y3⟩, y4, y5⟩ := hSw; go_simp) | skip
                try with_reducible rfl
              try simp only [Act.put, List.getElem_toArray, List.getElem_cons_succ, List.getElem_cons_zero, List.setIfInBounds_toArray, List.set_cons_zero, List.set_cons_succ]
              refine AnyBut.takeS (i := 13) (v := ?v278) rfl (by kernel_rfl) (Nat.le_of_eq (by kernel_rfl)) (by kernel_rfl) (by kernel_rfl) (fun _ _ _ h => h) (HS0.out) (Or.inl ⟨by kernel_rfl, ?hy278⟩) ?r278
              case hy278 =>
                intro w hSw
                try dsimp only at hSw
                go_simp
                first | (obtain ⟨y0, ⟨y1', y2, y3⟩, y4, y5⟩ := hSw; go_simp) | skip
                try with_reducible rfl
              try simp only [Act.put, List.getElem_toArray, List.getElem_cons_succ, List.getElem_cons_zero, List.setIfInBounds_toArray, List.set_cons_zero, List.set_cons_succ]
              refine AnyBut.takeS (i := 14) (v := ?v279) rfl (by kernel_rfl) (Nat.le_of_eq (by kernel_rfl)) (by kernel_rfl) (by kernel_rfl) (fun _ _ _ h => h) (HS0.out) (Or.inl ⟨by kernel_rfl, ?hy279⟩) ?r279
              case hy279 =>
                intro w hSw
                try dsimp only at hSw
                go_simp
                first | (obtain ⟨y0, ⟨y1', y2, y3⟩, y4, y5⟩ := hSw; go_simp) | skip
                try with_reducible rfl
              try simp only [Act.put, List.getElem_toArray, List.getElem_cons_succ, List.getElem_cons_zero, List.setIfInBounds_toArray, List.set_cons_zero, List.set_cons_succ]
              refine AnyBut.takeS (i := 15) (v := ?v280) rfl (by kernel_rfl) (Nat.le_of_eq (by kernel_rfl)) (by kernel_rfl) (by kernel_rfl) (fun _ _ _ h => h) (HS0.out) (Or.inl ⟨by kernel_rfl, ?hy280⟩) ?r280
              case hy280 =>
                intro w hSw
                try dsimp only at hSw
                go_simp
                first | (obtain ⟨y0, ⟨y1', y2, y3⟩, y4, y5⟩ := hSw; go_simp) | skip
                try with_reducible rfl
              try simp only [Act.put, List.getElem_toArray, List.getElem_cons_succ, List.getElem_cons_zero, List.setIfInBounds_toArray, List.set_cons_zero, List.set_cons_succ]
              refine AnyBut.takeS (i := 16) (v := ?v281) rfl (by kernel_rfl) (Nat.le_of_eq (by kernel_rfl)) (by kernel_rfl) (by kernel_rfl) (fun _ _ _ h => h) (HS0.out) (Or.inl ⟨by kernel_rfl, ?hy281⟩) ?r281
              case hy281 =>
                intro w hSw
                try dsimp only at hSw
                go_simp
                first | (obtain ⟨y0, ⟨y1', y2, y3⟩, y4, y5⟩ := hSw; go_simp) | skip
                try with_reducible rfl
              try simp only [Act.put, List.getElem_toArray, List.getElem_cons_succ, List.getElem_cons_zero, List.setIfInBounds_toArray, List.set_cons_zero, List.set_cons_succ]
              refine AnyBut.takeS (i := 17) (v := ?v282) rfl (by kernel_rfl) (Nat.le_of_eq (by kernel_rfl)) (by kernel_rfl) (by kernel_rfl) (fun _ _ _ h => h) (HS0.out) (Or.inl ⟨by kernel_rfl, ?hy282⟩) ?r282
              case hy282 =>
                intro w hSw
                try dsimp only at hSw
                go_simp
                first | (obtain ⟨y0, ⟨y1', y2, y3⟩, y4, y5⟩ := hSw; go_simp) | skip
                try with_reducible rfl
              try simp only [Act.put, List.getElem_toArray, List.getElem_cons_succ, List.getElem_cons_zero, List.setIfInBounds_toArray, List.set_cons_zero, List.set_cons_succ]
              refine AnyBut.takeS (i := 18) (v := ?v283) rfl (by kernel_rfl) (Nat.le_of_eq (by kernel_rfl)) (by kernel_rfl) (by kernel_rfl) (fun _ _ _ h => h) (HS0.out) (Or.inl ⟨by kernel_rfl, ?hy283⟩) ?r283
              case hy283 =>
                intro w hSw
                try dsimp only at hSw
                go_simp
                first | (obtain ⟨y0, ⟨y1', y2, y3⟩, y4, y5⟩ := hSw; go_simp) | skip
                try with_reducible rfl
              try simp only [Act.put, List.getElem_toArray, List.getElem_cons_succ, List.getElem_cons_zero, List.setIfInBounds_toArray, List.set_cons_zero, List.set_cons_succ]
              refine AnyBut.takeS (i := 19) (v := ?v284) rfl (by kernel_rfl) (Nat.le_of_eq (by kernel_rfl)) (by kernel_rfl) (by kernel_rfl) (fun _ _ _ h => h) (HS0.out) (Or.inl ⟨by kernel_rfl, ?hy284⟩) ?r284
              case hy284 =>
                intro w hSw
                try dsimp only at hSw
                go_simp
                first | (obtain ⟨y0, ⟨y1', y2, y3⟩, y4, y5⟩ := hSw; go_simp) | skip
                try with_reducible rfl
              try simp only [Act.put, List.getElem_toArray, List.getElem_cons_succ, List.getElem_cons_zero, List.setIfInBounds_toArray, List.set_cons_zero, List.set_cons_succ]
              refine AnyBut.takeS (i := 20) (v := ?v285) rfl (by kernel_rfl) (Nat.le_of_eq (by kernel_rfl)) (by kernel_rfl) (by kernel_rfl) (fun _ _ _ h => h) (HS0.out) (Or.inl ⟨by kernel_rfl, ?hy285⟩) ?r285
              case hy285 =>
                intro w hSw
                try dsimp only at hSw
                go_simp
                first | (obtain ⟨y0, ⟨y1', y2, y3⟩, y4, y5⟩ := hSw; go_simp) | skip
                try with_reducible rfl
              try simp only [Act.put, List.getElem_toArray, List.getElem_cons_succ, List.getElem_cons_zero, List.setIfInBounds_toArray, List.set_cons_zero, List.set_cons_succ]
              refine AnyBut.takeS (i := 21) (v := ?v286) rfl (by kernel_rfl) (Nat.le_of_eq (by kernel_rfl)) (by kernel_rfl) (by kernel_rfl) (fun _ _ _ h => h) (HS0.out) (Or.inl ⟨by kernel_rfl, ?hy286⟩) ?r286
              case hy286 =>
                intro w hSw
                try dsimp only at hSw
                go_simp
                first | (obtain ⟨y0, ⟨y1', y2, y3⟩, y4, y5⟩ := hSw; go_simp) | skip
                try with_reducible rfl
              try simp only [Act.put, List.getElem_toArray, List.getElem_cons_succ, List.getElem_cons_zero, List.setIfInBounds_toArray, List.set_cons_zero, List.set_cons_succ]
              refine AnyBut.takeS (i := 22) (v := ?v287) rfl (by kernel_rfl) (Nat.le_of_eq (by kernel_rfl)) (by kernel_rfl) (by kernel_rfl) (fun _ _ _ h => h) (HS0.out) (Or.inl ⟨by kernel_rfl, ?hy287⟩) ?r287
              case hy287 =>
                intro w hSw
                try dsimp only at hSw
                go_simp
                first | (obtain ⟨y0, ⟨y1', y2, y3⟩, y4, y5⟩ := hSw; go_simp) | skip
                try with_reducible rfl
              try simp only [Act.put, List.getElem_toArray, List.getElem_cons_succ, List.getElem_cons_zero, List.setIfInBounds_toArray, List.set_cons_zero, List.set_cons_succ]
              refine AnyBut.takeS (i := 23) (v := undef) rfl (by kernel_rfl) (Nat.le_of_eq (by kernel_rfl)) (by kernel_rfl) (by kernel_rfl) (fun _ _ _ h => h) (HS0.out) (Or.inr ⟨by kernel_rfl, rfl⟩) ?r288
              try simp only [Act.put, List.getElem_toArray, List.getElem_cons_succ, List.getElem_cons_zero, List.setIfInBounds_toArray, List.set_cons_zero, List.set_cons_succ]
              refine AnyBut.takeS (i := 24) (v := undef) rfl (by kernel_rfl) (Nat.le_of_eq (by kernel_rfl)) (by kernel_rfl) (by kernel_rfl) (fun _ _ _ h => h) (HS0.out) (Or.inr ⟨by kernel_rfl, rfl⟩) ?r289
              try simp only [Act.put, List.getElem_toArray, List.getElem_cons_succ, List.getElem_cons_zero, List.setIfInBounds_toArray, List.set_cons_zero, List.set_cons_succ]
              refine AnyBut.takeS (i := 25) (v := undef) rfl (by kernel_rfl) (Nat.le_of_eq (by kernel_rfl)) (by kernel_rfl) (by kernel_rfl) (fun _ _ _ h => h) (HS0.out) (Or.inr ⟨by kernel_rfl, rfl⟩) ?r290
              try simp only [Act.put, List.getElem_toArray, List.getElem_cons_succ, List.getElem_cons_zero, List.setIfInBounds_toArray, List.set_cons_zero, List.set_cons_succ]
              refine AnyBut.takeS (i := 26) (v := undef) rfl (by kernel_rfl) (Nat.le_of_eq (by kernel_rfl)) (by kernel_rfl) (by kernel_rfl) (fun _ _ _ h => h) (HS0.out) (Or.inr ⟨by kernel_rfl, rfl⟩) ?r291
              try simp only [Act.put, List.getElem_toArray, List.getElem_cons_succ, List.getElem_cons_zero, List.setIfInBounds_toArray, List.set_cons_zero, List.set_cons_succ]
              refine AnyBut.takeS (i := 27) (v := undef) rfl (by kernel_rfl) (Nat.le_of_eq (by kernel_rfl)) (by kernel_rfl) (by kernel_rfl) (fun _ _ _ h => h) (HS0.out) (Or.inr ⟨by kernel_rfl, rfl⟩) ?r292
              try simp only [Act.put, List.getElem_toArray, List.getElem_cons_succ, List.getElem_cons_zero, List.setIfInBounds_toArray, List.set_cons_zero, List.set_cons_succ]
              refine AnyBut.takeS (i := 28) (v := ?v293) rfl (by kernel_rfl) (Nat.le_of_eq (by kernel_rfl)) (by kernel_rfl) (by kernel_rfl) (fun _ _ _ h => h) (HS0.out) (Or.inl ⟨by kernel_rfl, ?hy293⟩) ?r293
              case hy293 =>
                intro w hSw
                try dsimp only at hSw
                go_simp
                first | (obtain ⟨y0, ⟨y1', y2, y3⟩, y4, y5⟩ := hSw; go_simp) | skip
                try with_reducible rfl
              try simp only [Act.put, List.getElem_toArray, List.getElem_cons_succ, List.getElem_cons_zero, List.setIfInBounds_toArray, List.set_cons_zero, List.set_cons_succ]
              refine AnyBut.takeS (i := 29) (v := ?v294) rfl (by kernel_rfl) (Nat.le_of_eq (by kernel_rfl)) (by kernel_rfl) (by kernel_rfl) (fun _ _ _ h => h) (HS0.out) (Or.inl ⟨by kernel_rfl, ?hy294⟩) ?r294
              case hy294 =>
                intro w hSw
                try dsimp only at hSw
                go_simp
                first | (obtain ⟨y0, ⟨y1', y2, y3⟩, y4, y5⟩ := hSw; go_simp) | skip
                try with_reducible rfl
              try simp only [Act.put, List.getElem_toArray, List.getElem_cons_succ, List.getElem_cons_zero, List.setIfInBounds_toArray, List.set_cons_zero, List.set_cons_succ]
              refine AnyBut.takeS (i := 30) (v := undef) rfl (by kernel_rfl) (Nat.le_of_eq (by kernel_rfl)) (by kernel_rfl) (by kernel_rfl) (fun _ _ _ h => h) (HS0.out) (Or.inr ⟨by kernel_rfl, rfl⟩) ?r295
              try simp only [Act.put, List.getElem_toArray, List.getElem_cons_succ, List.getElem_cons_zero, List.setIfInBounds_toArray, List.set_cons_zero, List.set_cons_succ]
              refine AnyBut.takeS (i := 31) (v := undef) rfl (by kernel_rfl) (Nat.le_of_eq (by kernel_rfl)) (by kernel_rfl) (by kernel_rfl) (fun _ _ _ h => h) (HS0.out) (Or.inr ⟨by kernel_rfl, rfl⟩) ?r296
              try simp only [Act.put, List.getElem_toArray, List.getElem_cons_succ, List.getElem_cons_zero, List.setIfInBounds_toArray, List.set_cons_zero, List.set_cons_succ]
              refine AnyBut.takeS (i := 32) (v := undef) rfl (by kernel_rfl) (Nat.le_of_eq (by kernel_rfl)) (by kernel_rfl) (by kernel_rfl) (fun _ _ _ h => h) (HS0.out) (Or.inr ⟨by kernel_rfl, rfl⟩) ?r297
              try simp only [Act.put, List.getElem_toArray, List.getElem_cons_succ, List.getElem_cons_zero, List.setIfInBounds_toArray, List.set_cons_zero, List.set_cons_succ]
              refine AnyBut.takeS (i := 33) (v := undef) rfl (by kernel_rfl) (Nat.le_of_eq (by kernel_rfl)) (by kernel_rfl) (by kernel_rfl) (fun _ _ _ h => h) (HS0.out) (Or.inr ⟨by kernel_rfl, rfl⟩) ?r298
              try simp only [Act.put, List.getElem_toArray, List.getElem_cons_succ, List.getElem_cons_zero, List.setIfInBounds_toArray, List.set_cons_zero, List.set_cons_succ]
              refine AnyBut.takeS (i := 34) (v := undef) rfl (by kernel_rfl) (Nat.le_of_eq (by kernel_rfl)) (by kernel_rfl) (by kernel_rfl) (fun _ _ _ h => h) (HS0.out) (Or.inr ⟨by kernel_rfl, rfl⟩) ?r299
              try simp only [Act.put, List.getElem_toArray, List.getElem_cons_succ, List.getElem_cons_zero, List.setIfInBounds_toArray, List.set_cons_zero, List.set_cons_succ]
              refine AnyBut.takeS (i := 35) (v := undef) rfl (by kernel_rfl) (Nat.le_of_eq (by kernel_rfl)) (by kernel_rfl) (by kernel_rfl) (fun _ _ _ h => h) (HS0.out) (Or.inr ⟨by kernel_rfl, rfl⟩) ?r300
              try simp only [Act.put, List.getElem_toArray, List.getElem_cons_succ, List.getElem_cons_zero, List.setIfInBounds_toArray, List.set_cons_zero, List.set_cons_succ]
              refine AnyBut.takeS (i := 36) (v := undef) rfl (by kernel_rfl) (Nat.le_of_eq (by kernel_rfl)) (by kernel_rfl) (by kernel_rfl) (fun _ _ _ h => h) (HS0.out) (Or.inr ⟨by kernel_rfl, rfl⟩) ?r301
              try simp only [Act.put, List.getElem_toArray, List.getElem_cons_succ, List.getElem_cons_zero, List.setIfInBounds_toArray, List.set_cons_zero, List.set_cons_succ]
              refine AnyBut.takeS (i := 37) (v := undef) rfl (by kernel_rfl) (Nat.le_of_eq (by kernel_rfl)) (by kernel_rfl) (by kernel_rfl) (fun _ _ _ h => h) (HS0.out) (Or.inr ⟨by kernel_rfl, rfl⟩) ?r302
              try simp only [Act.put, List.getElem_toArray, List.getElem_cons_succ, List.getElem_cons_zero, List.setIfInBounds_toArray, List.set_cons_zero, List.set_cons_succ]
              refine AnyBut.takeS (i := 38) (v := undef) rfl (by kernel_rfl) (Nat.le_of_eq (by kernel_rfl)) (by kernel_rfl) (by kernel_rfl) (fun _ _ _ h => h) (HS0.out) (Or.inr ⟨by kernel_rfl, rfl⟩) ?r303
              try simp only [Act.put, List.getElem_toArray, List.getElem_cons_succ, List.getElem_cons_zero, List.setIfInBounds_toArray, List.set_cons_zero, List.set_cons_succ]
              refine AnyBut.takeS (i := 39) (v := undef) rfl (by kernel_rfl) (Nat.le_of_eq (by kernel_rfl)) (by kernel_rfl) (by kernel_rfl) (fun _ _ _ h => h) (HS0.out) (Or.inr ⟨by kernel_rfl, rfl⟩) ?r304
              try simp only [Act.put, List.getElem_toArray, List.getElem_cons_succ, List.getElem_cons_zero, List.setIfInBounds_toArray, List.set_cons_zero, List.set_cons_succ]
              refine AnyBut.takeS (i := 40) (v := undef) rfl (by kernel_rfl) (Nat.le_of_eq (by kernel_rfl)) (by kernel_rfl) (by kernel_rfl) (fun _ _ _ h => h) (HS0.out) (Or.inr ⟨by kernel_rfl, rfl⟩) ?r305
              try simp only [Act.put, List.getElem_toArray, List.getElem_cons_succ, List.getElem_cons_zero, List.setIfInBounds_toArray, List.set_cons_zero, List.set_cons_succ]
              refine AnyBut.takeS (i := 41) (v := undef) rfl (by kernel_rfl) (Nat.le_of_eq (by kernel_rfl)) (by kernel_rfl) (by kernel_rfl) (fun _ _ _ h => h) (HS0.out) (Or.inr ⟨by kernel_rfl, rfl⟩) ?r306
              try simp only [Act.put, List.getElem_toArray, List.getElem_cons_succ, List.getElem_cons_zero, List.setIfInBounds_toArray, List.set_cons_zero, List.set_cons_succ]
              refine AnyBut.takeS (i := 42) (v := ?v307) rfl (by kernel_rfl) (Nat.le_of_eq (by kernel_rfl)) (by kernel_rfl) (by kernel_rfl) (fun _ _ _ h => h) (HS0.out) (Or.inl ⟨by kernel_rfl, ?hy307⟩) ?r307
              case hy307 =>
                intro w hSw
                try dsimp only at hSw
                go_simp
                first | (obtain ⟨y0, ⟨y1', y2, y3⟩, y4, y5⟩ := hSw; go_simp) | skip
                try with_reducible rfl
              try simp only [Act.put, List.getElem_toArray, List.getElem_cons_succ, List.getElem_cons_zero, List.setIfInBounds_toArray, List.set_cons_zero, List.set_cons_succ]
              refine AnyBut.takeS (i := 43) (v := ?v308) rfl (by kernel_rfl) (Nat.le_of_eq (by kernel_rfl)) (by kernel_rfl) (by kernel_rfl) (fun _ _ _ h => h) (HS0.out) (Or.inl ⟨by kernel_rfl, ?hy308⟩) ?r308
              case hy308 =>
                intro w hSw
                try dsimp only at hSw
                go_simp
                first | (obtain ⟨y0, ⟨y1', y2, y3⟩, y4, y5⟩ := hSw; go_simp) | skip
                try with_reducible rfl
              try simp only [Act.put, List.getElem_toArray, List.getElem_cons_succ, List.getElem_cons_zero, List.setIfInBounds_toArray, List.set_cons_zero, List.set_cons_succ]
              refine AnyBut.done (by kernel_rfl) ?_
              go_wp2
              go_roundg (m - (i + 1))
              case measure => have := HD.out; omega
              case rel => exact ⟨i + 1, HD.out, rfl, rfl, by rw [HSX.out], HKR.out.trans ((Kept.refl _ _).drew)⟩
            have qs : (s1 == s0) = true := by rw [beq_iff_eq]; exact hst
            cases hmo : mo with
            | false =>
              have q4 := HF4.out (fun h => by rw [hmo] at h; exact absurd h.2.1 (by decide))
              rw [hmo] at r4
              clear hst hmo
              have HS0 : Hid ((fun w' => w'.cell? ⟨go, oo + i * 17 + 16, none⟩ = some (.int .i64 fl) ∧ (w'.cell? ⟨gi, oi + i * 17 + 4, none⟩ = some (.bool false) ∧ w'.cell? ⟨gi, oi + i * 17 + 5, none⟩ = some (.int .i64 s1) ∧ w'.cell? ⟨gi, oi + i * 17 + 7, none⟩ = some (.int .i64 x1)) ∧ w'.cell? ⟨gi, oi + j * 17 + 5, none⟩ = some (.int .i64 s0) ∧ w'.cell? ⟨gi, oi + j * 17 + 7, none⟩ = some (.int .i64 x0)) wr.drew) := Lib.hid ⟨t16, ⟨r4, r5, r7⟩, z5, z7⟩
              refine AnyBut.start (S := fun w' => w'.cell? ⟨go, oo + i * 17 + 16, none⟩ = some (.int .i64 fl) ∧ (w'.cell? ⟨gi, oi + i * 17 + 4, none⟩ = some (.bool false) ∧ w'.cell? ⟨gi, oi + i * 17 + 5, none⟩ = some (.int .i64 s1) ∧ w'.cell? ⟨gi, oi + i * 17 + 7, none⟩ = some (.int .i64 x1)) ∧ w'.cell? ⟨gi, oi + j * 17 + 5, none⟩ = some (.int .i64 s0) ∧ w'.cell? ⟨gi, oi + j * 17 + 7, none⟩ = some (.int .i64 x0)) (k := 44) (by kernel_rfl) ?_
              refine AnyBut.takeS (i := 0) (v := ?v309) rfl (by kernel_rfl) (Nat.le_of_eq (by kernel_rfl)) (by kernel_rfl) (by kernel_rfl) (fun _ _ _ h => h) (HS0.out) (Or.inl ⟨by kernel_rfl, ?hy309⟩) ?r309
              case hy309 =>
                intro w hSw
                try dsimp only at hSw
                go_simp
                first | (obtain ⟨y0, ⟨y1', y2, y3⟩, y4, y5⟩ := hSw; go_simp) | skip
                try with_reducible rfl
              try simp only [Act.put, List.getElem_toArray, List.getElem_cons_zero, List.setIfInBounds_toArray, List.set_cons_zero, List.set_cons_succ]
              refine AnyBut.takeS (i := 1) (v := ?v310) rfl (by kernel_rfl) (Nat.le_of_eq (by kernel_rfl)) (by kernel_rfl) (by kernel_rfl) (fun _ _ _ h => h) (HS0.out) (Or.inl ⟨by kernel_rfl, ?hy310⟩) ?r310
              case hy310 =>
                intro w hSw
                try dsimp only at hSw
                go_simp
                first | (obtain ⟨y0, ⟨y1', y2, y3⟩, y4, y5⟩ := hSw; go_simp) | skip
                try with_reducible rfl
              try simp only [Act.put, List.getElem_toArray, List.getElem_cons_succ, List.getElem_cons_zero, List.setIfInBounds_toArray, List.set_cons_zero, List.set_cons_succ]
              refine AnyBut.takeS (i := 2) (v := ?v311) rfl (by kernel_rfl) (Nat.le_of_eq (by kernel_rfl)) (by kernel_rfl) (by kernel_rfl) (fun _ _ _ h => h) (HS0.out) (Or.inl ⟨by kernel_rfl, ?hy311⟩) ?r311
              case hy311 =>
                intro w hSw
                try dsimp only at hSw
                go_simp
                first | (obtain ⟨y0, ⟨y1', y2, y3⟩, y4, y5⟩ := hSw; go_simp) | skip
                try with_reducible rfl
              try simp only [Act.put, List.getElem_toArray, List.getElem_cons_succ, List.getElem_cons_zero, List.setIfInBounds_toArray, List.set_cons_zero, List.set_cons_succ]
              refine AnyBut.takeS (i := 3) (v := ?v312) rfl (by kernel_rfl) (Nat.le_of_eq (by kernel_rfl)) (by kernel_rfl) (by kernel_rfl) (fun _ _ _ h => h) (HS0.out) (Or.inl ⟨by kernel_rfl, ?hy312⟩) ?r312
              case hy312 =>
                intro w hSw
                try dsimp only at hSw
                go_simp
                first | (obtain ⟨y0, ⟨y1', y2, y3⟩, y4, y5⟩ := hSw; go_simp) | skip
                try with_reducible rfl
              try simp only [Act.put, List.getElem_toArray, List.getElem_cons_succ, List.getElem_cons_zero, List.setIfInBounds_toArray, List.set_cons_zero, List.set_cons_succ]
              refine AnyBut.takeS (i := 4) (v := ?v313) rfl (by kernel_rfl) (Nat.le_of_eq (by kernel_rfl)) (by kernel_rfl) (by kernel_rfl) (fun _ _ _ h => h) (HS0.out) (Or.inl ⟨by kernel_rfl, ?hy313⟩) ?r313
              case hy313 =>
                intro w hSw
                try dsimp only at hSw
                go_simp
                first | (obtain ⟨y0, ⟨y1', y2, y3⟩, y4, y5⟩ := hSw; go_simp) | skip
                try with_reducible rfl
              try simp only [Act.put, List.getElem_toArray, List.getElem_cons_succ, List.getElem_cons_zero, List.setIfInBounds_toArray, List.set_cons_zero, List.set_cons_succ]
              refine AnyBut.takeS (i := 5) (v := ?v314) rfl (by kernel_rfl) (Nat.le_of_eq (by kernel_rfl)) (by kernel_rfl) (by kernel_rfl) (fun _ _ _ h => h) (HS0.out) (Or.inl ⟨by kernel_rfl, ?hy314⟩) ?r314
              case hy314 =>
                intro w hSw
                try dsimp only at hSw
                go_simp
                first | (obtain ⟨y0, ⟨y1', y2, y3⟩, y4, y5⟩ := hSw; go_simp) | skip
                try with_reducible rfl
              try simp only [Act.put, List.getElem_toArray, List.getElem_cons_succ, List.getElem_cons_zero, List.setIfInBounds_toArray, List.set_cons_zero, List.set_cons_succ]
              refine AnyBut.takeS (i := 6) (v := ?v315) rfl (by kernel_rfl) (Nat.le_of_eq (by kernel_rfl)) (by kernel_rfl) (by kernel_rfl) (fun _ _ _ h => h) (HS0.out) (Or.inl ⟨by kernel_rfl, ?hy315⟩) ?r315
              case hy315 =>
                intro w hSw
                try dsimp only at hSw
                go_simp
                first | (obtain ⟨y0, ⟨y1', y2, y3⟩, y4, y5⟩ := hSw; go_simp) | skip
                try with_reducible rfl
              try simp only [Act.put, List.getElem_toArray, List.getElem_cons_succ, List.getElem_cons_zero, List.setIfInBounds_toArray, List.set_cons_zero, List.set_cons_succ]
              refine AnyBut.takeS (i := 7) (v := ?v316) rfl (by kernel_rfl) (Nat.le_of_eq (by kernel_rfl)) (by kernel_rfl) (by kernel_rfl) (fun _ _ _ h => h) (HS0.out) (Or.inl ⟨by kernel_rfl, ?hy316⟩) ?r316
              case hy316 =>
                intro w hSw
                try dsimp only at hSw
                go_simp
                first | (obtain ⟨y0, ⟨y1', y2, y3⟩, y4, y5⟩ := hSw; go_simp) | skip
                try with_reducible rfl
              try simp only [Act.put, List.getElem_toArray, List.getElem_cons_succ, List.getElem_cons_zero, List.setIfInBounds_toArray, List.set_cons_zero, List.set_cons_succ]
              refine AnyBut.takeS (i := 8) (v := ?v317) rfl (by kernel_rfl) (Nat.le_of_eq (by kernel_rfl)) (by kernel_rfl) (by kernel_rfl) (fun _ _ _ h => h) (HS0.out) (Or.inl ⟨by kernel_rfl, ?hy317⟩) ?r317
              case hy317 =>
                intro w hSw
                try dsimp only at hSw
                go_simp
                first | (obtain ⟨y0, ⟨y1', y2, y3⟩, y4, y5⟩ := hSw; go_simp) | skip
                try with_reducible rfl
              try simp only [Act.put, List.getElem_toArray, List.getElem_cons_succ, List.getElem_cons_zero, List.setIfInBounds_toArray, List.set_cons_zero, List.set_cons_succ]
              refine AnyBut.takeS (i := 9) (v := ?v318) rfl (by kernel_rfl) (Nat.le_of_eq (by kernel_rfl)) (by kernel_rfl) (by kernel_rfl) (fun _ _ _ h => h) (HS0.out) (Or.inl ⟨by kernel_rfl, ?hy318⟩) ?r318
              case hy318 =>
                intro w hSw
                try dsimp only at hSw
                go_simp
                first | (obtain ⟨y0, ⟨y1', y2, y3⟩, y4, y5⟩ := hSw; go_simp) | skip
                try with_reducible rfl
              try simp only [Act.put, List.getElem_toArray, List.getElem_cons_succ, List.getElem_cons_zero, List.setIfInBounds_toArray, List.set_cons_zero, List.set_cons_succ]
              refine AnyBut.takeS (i := 10) (v := ?v319) rfl (by kernel_rfl) (Nat.le_of_eq (by kernel_rfl)) (by kernel_rfl) (by kernel_rfl) (fun _ _ _ h => h) (HS0.out) (Or.inl ⟨by kernel_rfl, ?hy319⟩) ?r319
              case hy319 =>
                intro w hSw
                try dsimp only at hSw
                go_simp
                first | (obtain ⟨y0, ⟨y1', y2, y3⟩, y4, y5⟩ := hSw; go_simp) | skip
                try with_reducible rfl
              try simp only [Act.put, List.getElem_toArray, List.getElem_cons_succ, List.getElem_cons_zero, List.setIfInBounds_toArray, List.set_cons_zero, List.set_cons_succ]
              refine AnyBut.takeS (i := 11) (v := ?v320) rfl (by kernel_rfl) (Nat.le_of_eq (by kernel_rfl)) (by kernel_rfl) (by kernel_rfl) (fun _ _ _ h => h) (HS0.out) (Or.inl ⟨by kernel_rfl, ?hy320⟩) ?r320
              case hy320 =>
                intro w hSw
                try dsimp only at hSw
                go_simp
                first | (obtain ⟨y0, ⟨y1', y2, y3⟩, y4, y5⟩ := hSw; go_simp) | skip
                try with_reducible rfl
              try simp only [Act.put, List.getElem_toArray, List.getElem_cons_succ, List.getElem_cons_zero, List.setIfInBounds_toArray, List.set_cons_zero, List.set_cons_succ]
              refine AnyBut.takeS (i := 12) (v := ?v321) rfl (by kernel_rfl) (Nat.le_of_eq (by kernel_rfl)) (by kernel_rfl) (by kernel_rfl) (fun _ _ _ h => h) (HS0.out) (Or.inl ⟨by kernel_rfl, ?hy321⟩) ?r321
              case hy321 =>
                intro w hSw
                try dsimp only at hSw
                go_simp
                first | (obtain ⟨y0, ⟨y1', y2, y3⟩, y4, y5⟩ := hSw; go_simp) | skip
                try with_reducible rfl
              try simp only [Act.put, List.getElem_toArray, List.getElem_cons_succ, List.getElem_cons_zero, List.setIfInBounds_toArray, List.set_cons_zero, List.set_cons_succ]
              refine AnyBut.takeS (i := 13) (v := ?v322) rfl (by kernel_rfl) (Nat.le_of_eq (by kernel_rfl)) (by kernel_rfl) (by kernel_rfl) (fun _ _ _ h => h) (HS0.out) (Or.inl ⟨by kernel_rfl, ?hy322⟩) ?r322
              case hy322 =>
                intro w hSw
                try dsimp only at hSw
                go_simp
                first | (obtain ⟨y0, ⟨y1', y2, y3⟩, y4, y5⟩ := hSw; go_simp) | skip
                try with_reducible rfl
              try simp only [Act.put, List.getElem_toArray, List.getElem_cons_succ, List.getElem_cons_zero, List.setIfInBounds_toArray, List.set_cons_zero, List.set_cons_succ]
              refine AnyBut.takeS (i := 14) (v := ?v323) rfl (by kernel_rfl) (Nat.le_of_eq (by kernel_rfl)) (by kernel_rfl) (by kernel_rfl) (fun _ _ _ h => h) (HS0.out) (Or.inl ⟨by kernel_rfl, ?hy323⟩) ?r323
              case hy323 =>
                intro w hSw
                try dsimp only at hSw
                go_simp
                first | (obtain ⟨y0, ⟨y1', y2, y3⟩, y4, y5⟩ := hSw; go_simp) | skip
                try with_reducible rfl
              try simp only [Act.put, List.getElem_toArray, List.getElem_cons_succ, List.getElem_cons_zero, List.setIfInBounds_toArray, List.set_cons_zero, List.set_cons_succ]
              refine AnyBut.takeS (i := 15) (v := ?v324) rfl (by kernel_rfl) (Nat.le_of_eq (by kernel_rfl)) (by kernel_rfl) (by kernel_rfl) (fun _ _ _ h => h) (HS0.out) (Or.inl ⟨by kernel_rfl, ?hy324⟩) ?r324
              case hy324 =>
                intro w hSw
                try dsimp only at hSw
                go_simp
                first | (obtain ⟨y0, ⟨y1', y2, y3⟩, y4, y5⟩ := hSw; go_simp) | skip
                try with_reducible rfl
              try simp only [Act.put, List.getElem_toArray, List.getElem_cons_succ, List.getElem_cons_zero, List.setIfInBounds_toArray, List.set_cons_zero, List.set_cons_succ]
              refine AnyBut.takeS (i := 16) (v := ?v325) rfl (by kernel_rfl) (Nat.le_of_eq (by kernel_rfl)) (by kernel_rfl) (by kernel_rfl) (fun _ _ _ h => h) (HS0.out) (Or.inl ⟨by kernel_rfl, ?hy325⟩) ?r325
              case hy325 =>
                intro w hSw
                try dsimp only at hSw
                go_simp
                first | (obtain ⟨y0, ⟨y1', y2, y3⟩, y4, y5⟩ := hSw; go_simp) | skip
                try with_reducible rfl
              try simp only [Act.put, List.getElem_toArray, List.getElem_cons_succ, List.getElem_cons_zero, List.setIfInBounds_toArray, List.set_cons_zero, List.set_cons_succ]
              refine AnyBut.takeS (i := 17) (v := ?v326) rfl (by kernel_rfl) (Nat.le_of_eq (by kernel_rfl)) (by kernel_rfl) (by kernel_rfl) (fun _ _ _ h => h) (HS0.out) (Or.inl ⟨by kernel_rfl, ?hy326⟩) ?r326
              case hy326 =>
                intro w hSw
                try dsimp only at hSw
                go_simp
                first | (obtain ⟨y0, ⟨y1', y2, y3⟩, y4, y5⟩ := hSw; go_simp) | skip
                try with_reducible rfl
              try simp only [Act.put, List.getElem_toArray, List.getElem_cons_succ, List.getElem_cons_zero, List.setIfInBounds_toArray, List.set_cons_zero, List.set_cons_succ]
              refine AnyBut.takeS (i := 18) (v := ?v327) rfl (by kernel_rfl) (Nat.le_of_eq (by kernel_rfl)) (by kernel_rfl) (by kernel_rfl) (fun _ _ _ h => h) (HS0.out) (Or.inl ⟨by kernel_rfl, ?hy327⟩) ?r327
              case hy327 =>
                intro w hSw
                try dsimp only at hSw
                go_simp
                first | (obtain ⟨y0, ⟨y1', y2, y3⟩, y4, y5⟩ := hSw; go_simp) | skip
                try with_reducible rfl
              try simp only [Act.put, List.getElem_toArray, List.getElem_cons_succ, List.getElem_cons_zero, List.setIfInBounds_toArray, List.set_cons_zero, List.set_cons_succ]
              refine AnyBut.takeS (i := 19) (v := ?v328) rfl (by kernel_rfl) (Nat.le_of_eq (by kernel_rfl)) (by kernel_rfl) (by kernel_rfl) (fun _ _ _ h => h) (HS0.out) (Or.inl ⟨by kernel_rfl, ?hy328⟩) ?r328
              case hy328 =>
                intro w hSw
                try dsimp only at hSw
                go_simp
                first | (obtain ⟨y0, ⟨y1', y2, y3⟩, y4, y5⟩ := hSw; go_simp) | skip
                try with_reducible rfl
              try simp only [Act.put, List.getElem_toArray, List.getElem_cons_succ, List.getElem_cons_zero, List.setIfInBounds_toArray, List.set_cons_zero, List.set_cons_succ]
              refine AnyBut.takeS (i := 20) (v := ?v329) rfl (by kernel_rfl) (Nat.le_of_eq (by kernel_rfl)) (by kernel_rfl) (by kernel_rfl) (fun _ _ _ h => h) (HS0.out) (Or.inl ⟨by kernel_rfl, ?hy329⟩) ?r329
              case hy329 =>
                intro w hSw
                try dsimp only at hSw
                go_simp
                first | (obtain ⟨y0, ⟨y1', y2, y3⟩, y4, y5⟩ := hSw; go_simp) | skip
                try with_reducible rfl
              try simp only [Act.put, List.getElem_toArray, List.getElem_cons_succ, List.getElem_cons_zero, List.setIfInBounds_toArray, List.set_cons_zero, List.set_cons_succ]
              refine AnyBut.takeS (i := 21) (v := ?v330) rfl (by kernel_rfl) (Nat.le_of_eq (by kernel_rfl)) (by kernel_rfl) (by kernel_rfl) (fun _ _ _ h => h) (HS0.out) (Or.inl ⟨by kernel_rfl, ?hy330⟩) ?r330
              case hy330 =>
                intro w hSw
                try dsimp only at hSw
                go_simp
                first | (obtain ⟨y0, ⟨y1', y2, y3⟩, y4, y5⟩ := hSw; go_simp) | skip
                try with_reducible rfl
              try simp only [Act.put, List.getElem_toArray, List.getElem_cons_succ, List.getElem_cons_zero, List.setIfInBounds_toArray, List.set_cons_zero, List.set_cons_succ]
              refine AnyBut.takeS (i := 22) (v := ?v331) rfl (by kernel_rfl) (Nat.le_of_eq (by kernel_rfl)) (by kernel_rfl) (by kernel_rfl) (fun _ _ _ h => h) (HS0.out) (Or.inl ⟨by kernel_rfl, ?hy331⟩) ?r331
              case hy331 =>
                intro w hSw
                try dsimp only at hSw
                go_simp
                first | (obtain ⟨y0, ⟨y1', y2, y3⟩, y4, y5⟩ := hSw; go_simp) | skip
                try with_reducible rfl
              try simp only [Act.put, List.getElem_toArray, List.getElem_cons_succ, List.getElem_cons_zero, List.setIfInBounds_toArray, List.set_cons_zero, List.set_cons_succ]
              refine AnyBut.takeS (i := 23) (v := ?v332) rfl (by kernel_rfl) (Nat.le_of_eq (by kernel_rfl)) (by kernel_rfl) (by kernel_rfl) (fun _ _ _ h => h) (HS0.out) (Or.inl ⟨by kernel_rfl, ?hy332⟩) ?r332
              case hy332 =>
                intro w hSw
                try dsimp only at hSw
                go_simp
                first | (obtain ⟨y0, ⟨y1', y2, y3⟩, y4, y5⟩ := hSw; go_simp) | skip
                try with_reducible rfl
              try simp only [Act.put, List.getElem_toArray, List.getElem_cons_succ, List.getElem_cons_zero, List.setIfInBounds_toArray, List.set_cons_zero, List.set_cons_succ]
              refine AnyBut.takeS (i := 24) (v := ?v333) rfl (by kernel_rfl) (Nat.le_of_eq (by kernel_rfl)) (by kernel_rfl) (by kernel_rfl) (fun _ _ _ h => h) (HS0.out) (Or.inl ⟨by kernel_rfl, ?hy333⟩) ?r333
              case hy333 =>
                intro w hSw
                try dsimp only at hSw
                go_simp
                first | (obtain ⟨y0, ⟨y1', y2, y3⟩, y4, y5⟩ := hSw; go_simp) | skip
                try with_reducible rfl
              try simp only [Act.put, List.getElem_toArray, List.getElem_cons_succ, List.getElem_cons_zero, List.setIfInBounds_toArray, List.set_cons_zero, List.set_cons_succ]
              refine AnyBut.takeS (i := 25) (v := ?v334) rfl (by kernel_rfl) (Nat.le_of_eq (by kernel_rfl)) (by kernel_rfl) (by kernel_rfl) (fun _ _ _ h => h) (HS0.out) (Or.inl ⟨by kernel_rfl, ?hy334⟩) ?r334
              case hy334 =>
                intro w hSw
                try dsimp only at hSw
                go_simp
                first | (obtain ⟨y0, ⟨y1', y2, y3⟩, y4, y5⟩ := hSw; go_simp) | skip
                try with_reducible rfl
              try simp only [Act.put, List.getElem_toArray, List.getElem_cons_succ, List.getElem_cons_zero, List.setIfInBounds_toArray, List.set_cons_zero, List.set_cons_succ]
              refine AnyBut.takeS (i := 26) (v := ?v335) rfl (by kernel_rfl) (Nat.le_of_eq (by kernel_rfl)) (by kernel_rfl) (by kernel_rfl) (fun _ _ _ h => h) (HS0.out) (Or.inl ⟨by kernel_rfl, ?hy335⟩) ?r335
              case hy335 =>
                intro w hSw
                try dsimp only at hSw
                go_simp
                first | (obtain ⟨y0, ⟨y1', y2, y3⟩, y4, y5⟩ := hSw; go_simp) | skip
                try with_reducible rfl
              try simp only [Act.put, List.getElem_toArray, List.getElem_cons_succ, List.getElem_cons_zero, List.setIfInBounds_toArray, List.set_cons_zero, List.set_cons_succ]
              refine AnyBut.takeS (i := 27) (v := ?v336) rfl (by kernel_rfl) (Nat.le_of_eq (by kernel_rfl)) (by kernel_rfl) (by kernel_rfl) (fun _ _ _ h => h) (HS0.out) (Or.inl ⟨by kernel_rfl, ?hy336⟩) ?r336
              case hy336 =>
                intro w hSw
                try dsimp only at hSw
                go_simp
                first | (obtain ⟨y0, ⟨y1', y2, y3⟩, y4, y5⟩ := hSw; go_simp) | skip
                try with_reducible rfl
              try simp only [Act.put, List.getElem_toArray, List.getElem_cons_succ, List.getElem_cons_zero, List.setIfInBounds_toArray, List.set_cons_zero, List.set_cons_succ]
              refine AnyBut.takeS (i := 28) (v := ?v337) rfl (by kernel_rfl) (Nat.le_of_eq (by kernel_rfl)) (by kernel_rfl) (by kernel_rfl) (fun _ _ _ h => h) (HS0.out) (Or.inl ⟨by kernel_rfl, ?hy337⟩) ?r337
              case hy337 =>
                intro w hSw
                try dsimp only at hSw
                go_simp
                first | (obtain ⟨y0, ⟨y1', y2, y3⟩, y4, y5⟩ := hSw; go_simp) | skip
                try with_reducible rfl
              try simp only [Act.put, List.getElem_toArray, List.getElem_cons_succ, List.getElem_cons_zero, List.setIfInBounds_toArray, List.set_cons_zero, List.set_cons_succ]
              refine AnyBut.takeS (i := 29) (v := ?v338) rfl (by kernel_rfl) (Nat.le_of_eq (by kernel_rfl)) (by kernel_rfl) (by kernel_rfl) (fun _ _ _ h => h) (HS0.out) (Or.inl ⟨by kernel_rfl, ?hy338⟩) ?r338
              case hy338 =>
                intro w hSw
                try dsimp only at hSw
                go_simp
                first | (obtain ⟨y0, ⟨y1', y2, y3⟩, y4, y5⟩ := hSw; go_simp) | skip
                try with_reducible rfl
              try simp only [Act.put, List.getElem_toArray, List.getElem_cons_succ, List.getElem_cons_zero, List.setIfInBounds_toArray, List.set_cons_zero, List.set_cons_succ]
              refine AnyBut.takeS (i := 30) (v := undef) rfl (by kernel_rfl) (Nat.le_of_eq (by kernel_rfl)) (by kernel_rfl) (by kernel_rfl) (fun _ _ _ h => h) (HS0.out) (Or.inr ⟨by kernel_rfl, rfl⟩) ?r339
              try simp only [Act.put, List.getElem_toArray, List.getElem_cons_succ, List.getElem_cons_zero, List.setIfInBounds_toArray, List.set_cons_zero, List.set_cons_succ]
              refine AnyBut.takeS (i := 31) (v := undef) rfl (by kernel_rfl) (Nat.le_of_eq (by kernel_rfl)) (by kernel_rfl) (by kernel_rfl) (fun _ _ _ h => h) (HS0.out) (Or.inr ⟨by kernel_rfl, rfl⟩) ?r340
              try simp only [Act.put, List.getElem_toArray, List.getElem_cons_succ, List.getElem_cons_zero, List.setIfInBounds_toArray, List.set_cons_zero, List.set_cons_succ]
              refine AnyBut.takeS (i := 32) (v := undef) rfl (by kernel_rfl) (Nat.le_of_eq (by kernel_rfl)) (by kernel_rfl) (by kernel_rfl) (fun _ _ _ h => h) (HS0.out) (Or.inr ⟨by kernel_rfl, rfl⟩) ?r341
              try simp only [Act.put, List.getElem_toArray, List.getElem_cons_succ, List.getElem_cons_zero, List.setIfInBounds_toArray, List.set_cons_zero, List.set_cons_succ]
              refine AnyBut.takeS (i := 33) (v := undef) rfl (by kernel_rfl) (Nat.le_of_eq (by kernel_rfl)) (by kernel_rfl) (by kernel_rfl) (fun _ _ _ h => h) (HS0.out) (Or.inr ⟨by kernel_rfl, rfl⟩) ?r342
              try simp only [Act.put, List.getElem_toArray, List.getElem_cons_succ, List.getElem_cons_zero, List.setIfInBounds_toArray, List.set_cons_zero, List.set_cons_succ]
              refine AnyBut.takeS (i := 34) (v := undef) rfl (by kernel_rfl) (Nat.le_of_eq (by kernel_rfl)) (by kernel_rfl) (by kernel_rfl) (fun _ _ _ h => h) (HS0.out) (Or.inr ⟨by kernel_rfl, rfl⟩) ?r343
              try simp only [Act.put, List.getElem_toArray, List.getElem_cons_succ, List.getElem_cons_zero, List.setIfInBounds_toArray, List.set_cons_zero, List.set_cons_succ]
              refine AnyBut.takeS (i := 35) (v := undef) rfl (by kernel_rfl) (Nat.le_of_eq (by kernel_rfl)) (by kernel_rfl) (by kernel_rfl) (fun _ _ _ h => h) (HS0.out) (Or.inr ⟨by kernel_rfl, rfl⟩) ?r344
              try simp only [Act.put, List.getElem_toArray, List.getElem_cons_succ, List.getElem_cons_zero, List.setIfInBounds_toArray, List.set_cons_zero, List.set_cons_succ]
              refine AnyBut.takeS (i := 36) (v := undef) rfl (by kernel_rfl) (Nat.le_of_eq (by kernel_rfl)) (by kernel_rfl) (by kernel_rfl) (fun _ _ _ h => h) (HS0.out) (Or.inr ⟨by kernel_rfl, rfl⟩) ?r345
              try simp only [Act.put, List.getElem_toArray, List.getElem_cons_succ, List.getElem_cons_zero, List.setIfInBounds_toArray, List.set_cons_zero, List.set_cons_succ]
              refine AnyBut.takeS (i := 37) (v := undef) rfl (by kernel_rfl) (Nat.le_of_eq (by kernel_rfl)) (by kernel_rfl) (by kernel_rfl) (fun _ _ _ h => h) (HS0.out) (Or.inr ⟨by kernel_rfl, rfl⟩) ?r346
              try simp only [Act.put, List.getElem_toArray, List.getElem_cons_succ, List.getElem_cons_zero, List.setIfInBounds_toArray, List.set_cons_zero, List.set_cons_succ]
              refine AnyBut.takeS (i := 38) (v := undef) rfl (by kernel_rfl) (Nat.le_of_eq (by kernel_rfl)) (by kernel_rfl) (by kernel_rfl) (fun _ _ _ h => h) (HS0.out) (Or.inr ⟨by kernel_rfl, rfl⟩) ?r347
              try simp only [Act.put, List.getElem_toArray, List.getElem_cons_succ, List.getElem_cons_zero, List.setIfInBounds_toArray, List.set_cons_zero, List.set_cons_succ]
              refine AnyBut.takeS (i := 39) (v := undef) rfl (by kernel_rfl) (Nat.le_of_eq (by kernel_rfl)) (by kernel_rfl) (by kernel_rfl) (fun _ _ _ h => h) (HS0.out) (Or.inr ⟨by kernel_rfl, rfl⟩) ?r348
              try simp only [Act.put, List.getElem_toArray, List.getElem_cons_succ, List.getElem_cons_zero, List.setIfInBounds_toArray, List.set_cons_zero, List.set_cons_succ]
              refine AnyBut.takeS (i := 40) (v := undef) rfl (by kernel_rfl) (Nat.le_of_eq (by kernel_rfl)) (by kernel_rfl) (by kernel_rfl) (fun _ _ _ h => h) (HS0.out) (Or.inr ⟨by kernel_rfl, rfl⟩) ?r349
              try simp only [Act.put, List.getElem_toArray, List.getElem_cons_succ, List.getElem_cons_zero, List.setIfInBounds_toArray, List.set_cons_zero, List.set_cons_succ]
              refine AnyBut.takeS (i := 41) (v := undef) rfl (by kernel_rfl) (Nat.le_of_eq (by kernel_rfl)) (by kernel_rfl) (by kernel_rfl) (fun _ _ _ h => h) (HS0.out) (Or.inr ⟨by kernel_rfl, rfl⟩) ?r350
              try simp only [Act.put, List.getElem_toArray, List.getElem_cons_succ, List.getElem_cons_zero, List.setIfInBounds_toArray, List.set_cons_zero, List.set_cons_succ]
              refine AnyBut.takeS (i := 42) (v := ?v351) rfl (by kernel_rfl) (Nat.le_of_eq (by kernel_rfl)) (by kernel_rfl) (by kernel_rfl) (fun _ _ _ h => h) (HS0.out) (Or.inl ⟨by kernel_rfl, ?hy351⟩) ?r351
              case hy351 =>
                intro w hSw
                try dsimp only at hSw
                go_simp
                first | (obtain ⟨y0, ⟨y1', y2, y3⟩, y4, y5⟩ := hSw; go_simp) | skip
                try with_reducible rfl
              try simp only [Act.put, List.getElem_toArray, List.getElem_cons_succ, List.getElem_cons_zero, List.setIfInBounds_toArray, List.set_cons_zero, List.set_cons_succ]
              refine AnyBut.takeS (i := 43) (v := ?v352) rfl (by kernel_rfl) (Nat.le_of_eq (by kernel_rfl)) (by kernel_rfl) (by kernel_rfl) (fun _ _ _ h => h) (HS0.out) (Or.inl ⟨by kernel_rfl, ?hy352⟩) ?r352
              case hy352 =>
                intro w hSw
                try dsimp only at hSw
                go_simp
                first | (obtain ⟨y0, ⟨y1', y2, y3⟩, y4, y5⟩ := hSw; go_simp) | skip
                try with_reducible rfl
              try simp only [Act.put, List.getElem_toArray, List.getElem_cons_succ, List.getElem_cons_zero, List.setIfInBounds_toArray, List.set_cons_zero, List.set_cons_succ]
              refine AnyBut.done (by kernel_rfl) ?_
              go_wp2
              go_roundg (m - (i + 1))
              case measure => have := HD.out; omega
              case rel => exact ⟨i + 1, HD.out, rfl, rfl, by rw [HSX.out], HKR.out.trans ((Kept.refl _ _).drew)⟩
            | true =>
              rw [hmo] at r4
              by_cases hlt : x1 < x0
              · have ql : decide (x1 < x0) = true := decide_eq_true hlt
                have q4 := HT4.out ⟨hst, hmo, hlt⟩
                clear hst hmo hlt
                have HS0 : Hid ((fun w' => w'.cell? ⟨go, oo + i * 17 + 16, none⟩ = some (.int .i64 fl) ∧ (w'.cell? ⟨gi, oi + i * 17 + 4, none⟩ = some (.bool true) ∧ w'.cell? ⟨gi, oi + i * 17 + 5, none⟩ = some (.int .i64 s1) ∧ w'.cell? ⟨gi, oi + i * 17 + 7, none⟩ = some (.int .i64 x1)) ∧ w'.cell? ⟨gi, oi + j * 17 + 5, none⟩ = some (.int .i64 s0) ∧ w'.cell? ⟨gi, oi + j * 17 + 7, none⟩ = some (.int .i64 x0)) wr.drew) := Lib.hid ⟨t16, ⟨r4, r5, r7⟩, z5, z7⟩
                refine AnyBut.start (S := fun w' => w'.cell? ⟨go, oo + i * 17 + 16, none⟩ = some (.int .i64 fl) ∧ (w'.cell? ⟨gi, oi + i * 17 + 4, none⟩ = some (.bool true) ∧ w'.cell? ⟨gi, oi + i * 17 + 5, none⟩ = some (.int .i64 s1) ∧ w'.cell? ⟨gi, oi + i * 17 + 7, none⟩ = some (.int .i64 x1)) ∧ w'.cell? ⟨gi, oi + j * 17 + 5, none⟩ = some (.int .i64 s0) ∧ w'.cell? ⟨gi, oi + j * 17 + 7, none⟩ = some (.int .i64 x0)) (k := 44) (by kernel_rfl) ?_
                refine AnyBut.takeS (i := 0) (v := ?v353) rfl (by kernel_rfl) (Nat.le_of_eq (by kernel_rfl)) (by kernel_rfl) (by kernel_rfl) (fun _ _ _ h => h) (HS0.out) (Or.inl ⟨by kernel_rfl, ?hy353⟩) ?r353
                case hy353 =>
                  intro w hSw
                  try dsimp only at hSw
                  go_simp
                  first | (obtain ⟨y0, ⟨y1', y2, y3⟩, y4, y5⟩ := hSw; go_simp) | skip
                  try with_reducible rfl
                try simp only [Act.put, List.getElem_toArray, List.getElem_cons_zero, List.setIfInBounds_toArray, List.set_cons_zero, List.set_cons_succ]
                refine AnyBut.takeS (i := 1) (v := ?v354) rfl (by kernel_rfl) (Nat.le_of_eq (by kernel_rfl)) (by kernel_rfl) (by kernel_rfl) (fun _ _ _ h => h) (HS0.out) (Or.inl ⟨by kernel_rfl, ?hy354⟩) ?r354
                case hy354 =>
                  intro w hSw
                  try dsimp only at hSw
                  go_simp
                  first | (obtain ⟨y0, ⟨y1', y2, y3⟩, y4, y5⟩ := hSw; go_simp) | skip
                  try with_reducible rfl
                try simp only [Act.put, List.getElem_toArray, List.getElem_cons_succ, List.getElem_cons_zero, List.setIfInBounds_toArray, List.set_cons_zero, List.set_cons_succ]
                refine AnyBut.takeS (i := 2) (v := ?v355) rfl (by kernel_rfl) (Nat.le_of_eq (by kernel_rfl)) (by kernel_rfl) (by kernel_rfl) (fun _ _ _ h => h) (HS0.out) (Or.inl ⟨by kernel_rfl, ?hy355⟩) ?r355
                case hy355 =>
                  intro w hSw
                  try dsimp only at hSw
                  go_simp
                  first | (obtain ⟨y0, ⟨y1', y2, y3⟩, y4, y5⟩ := hSw; go_simp) | skip
                  try with_reducible rfl
                try simp only [Act.put, List.getElem_toArray, List.getElem_cons_succ, List.getElem_cons_zero, List.setIfInBounds_toArray, List.set_cons_zero, List.set_cons_succ]
                refine AnyBut.takeS (i := 3) (v := ?v356) rfl (by kernel_rfl) (Nat.le_of_eq (by kernel_rfl)) (by kernel_rfl) (by kernel_rfl) (fun _ _ _ h => h) (HS0.out) (Or.inl ⟨by kernel_rfl, ?hy356⟩) ?r356
                case hy356 =>
                  intro w hSw
                  try dsimp only at hSw
                  go_simp
                  first | (obtain ⟨y0, ⟨y1', y2, y3⟩, y4, y5⟩ := hSw; go_simp) | skip
                  try with_reducible rfl
                try simp only [Act.put, List.getElem_toArray, List.getElem_cons_succ, List.getElem_cons_zero, List.setIfInBounds_toArray, List.set_cons_zero, List.set_cons_succ]
                refine AnyBut.takeS (i := 4) (v := ?v357) rfl (by kernel_rfl) (Nat.le_of_eq (by kernel_rfl)) (by kernel_rfl) (by kernel_rfl) (fun _ _ _ h => h) (HS0.out) (Or.inl ⟨by kernel_rfl, ?hy357⟩) ?r357
                case hy357 =>
                  intro w hSw
                  try dsimp only at hSw
                  go_simp
                  first | (obtain ⟨y0, ⟨y1', y2, y3⟩, y4, y5⟩ := hSw; go_simp) | skip
                  try with_reducible rfl
                try simp only [Act.put, List.getElem_toArray, List.getElem_cons_succ, List.getElem_cons_zero, List.setIfInBounds_toArray, List.set_cons_zero, List.set_cons_succ]
                refine AnyBut.takeS (i := 5) (v := ?v358) rfl (by kernel_rfl) (Nat.le_of_eq (by kernel_rfl)) (by kernel_rfl) (by kernel_rfl) (fun _ _ _ h => h) (HS0.out) (Or.inl ⟨by kernel_rfl, ?hy358⟩) ?r358
                case hy358 =>
                  intro w hSw
                  try dsimp only at hSw
                  go_simp
                  first | (obtain ⟨y0, ⟨y1', y2, y3⟩, y4, y5⟩ := hSw; go_simp) | skip
                  try with_reducible rfl
                try simp only [Act.put, List.getElem_toArray, List.getElem_cons_succ, List.getElem_cons_zero, List.setIfInBounds_toArray, List.set_cons_zero, List.set_cons_succ]
                refine AnyBut.takeS (i := 6) (v := ?v359) rfl (by kernel_rfl) (Nat.le_of_eq (by kernel_rfl)) (by kernel_rfl) (by kernel_rfl) (fun _ _ _ h => h) (HS0.out) (Or.inl ⟨by kernel_rfl, ?hy359⟩) ?r359
                case hy359 =>
                  intro w hSw
                  try dsimp only at hSw
                  go_simp
                  first | (obtain ⟨y0, ⟨y1', y2, y3⟩, y4, y5⟩ := hSw; go_simp) | skip
                  try with_reducible rfl
                try simp only [Act.put, List.getElem_toArray, List.getElem_cons_succ, List.getElem_cons_zero, List.setIfInBounds_toArray, List.set_cons_zero, List.set_cons_succ]
                refine AnyBut.takeS (i := 7) (v := ?v360) rfl (by kernel_rfl) (Nat.le_of_eq (by kernel_rfl)) (by kernel_rfl) (by kernel_rfl) (fun _ _ _ h => h) (HS0.out) (Or.inl ⟨by kernel_rfl, ?hy360⟩) ?r360
                case hy360 =>
                  intro w hSw
                  try dsimp only at hSw
                  go_simp
                  first | (obtain ⟨y0, ⟨y1', y2, y3⟩, y4, y5⟩ := hSw; go_simp) | skip
                  try with_reducible rfl
                try simp only [Act.put, List.getElem_toArray, List.getElem_cons_succ, List.getElem_cons_zero, List.setIfInBounds_toArray, List.set_cons_zero, List.set_cons_succ]
                refine AnyBut.takeS (i := 8) (v := ?v361) rfl (by kernel_rfl) (Nat.le_of_eq (by kernel_rfl)) (by kernel_rfl) (by kernel_rfl) (fun _ _ _ h => h) (HS0.out) (Or.inl ⟨by kernel_rfl, ?hy361⟩) ?r361
                case hy361 =>
                  intro w hSw
                  try dsimp only at hSw
                  go_simp
                  first | (obtain ⟨y0, ⟨y1', y2, y3⟩, y4, y5⟩ := hSw; go_simp) | skip
                  try with_reducible rfl
                try simp only [Act.put, List.getElem_toArray, List.getElem_cons_succ, List.getElem_cons_zero, List.setIfInBounds_toArray, List.set_cons_zero, List.set_cons_succ]
                refine AnyBut.takeS (i := 9) (v := ?v362) rfl (by kernel_rfl) (Nat.le_of_eq (by kernel_rfl)) (by kernel_rfl) (by kernel_rfl) (fun _ _ _ h => h) (HS0.out) (Or.inl ⟨by kernel_rfl, ?hy362⟩) ?r362
                case hy362 =>
                  intro w hSw
                  try dsimp only at hSw
                  go_simp
                  first | (obtain ⟨y0, ⟨y1', y2, y3⟩, y4, y5⟩ := hSw; go_simp) | skip
                  try with_reducible rfl
                try simp only [Act.put, List.getElem_toArray, List.getElem_cons_succ, List.getElem_cons_zero, List.setIfInBounds_toArray, List.set_cons_zero, List.set_cons_succ]
                refine AnyBut.takeS (i := 10) (v := ?v363) rfl (by kernel_rfl) (Nat.le_of_eq (by kernel_rfl)) (by kernel_rfl) (by kernel_rfl) (fun _ _ _ h => h) (HS0.out) (Or.inl ⟨by kernel_rfl, ?hy363⟩) ?r363
                case hy363 =>
                  intro w hSw
                  try dsimp only at hSw
                  go_simp
                  first | (obtain ⟨y0, ⟨y1', y2, y3⟩, y4, y5⟩ := hSw; go_simp) | skip
                  try with_reducible rfl
                try simp only [Act.put, List.getElem_toArray, List.getElem_cons_succ, List.getElem_cons_zero, List.setIfInBounds_toArray, List.set_cons_zero, List.set_cons_succ]
                refine AnyBut.takeS (i := 11) (v := ?v364) rfl (by kernel_rfl) (Nat.le_of_eq (by kernel_rfl)) (by kernel_rfl) (by kernel_rfl) (fun _ _ _ h => h) (HS0.out) (Or.inl ⟨by kernel_rfl, ?hy364⟩) ?r364
                case hy364 =>
                  intro w hSw
                  try dsimp only at hSw
                  go_simp
                  first | (obtain ⟨y0, ⟨y1', y2, y3⟩, y4, y5⟩ := hSw; go_simp) | skip
                  try with_reducible rfl
                try simp only [Act.put, List.getElem_toArray, List.getElem_cons_succ, List.getElem_cons_zero, List.setIfInBounds_toArray, List.set_cons_zero, List.set_cons_succ]
                refine AnyBut.takeS (i := 12) (v := ?v365) rfl (by kernel_rfl) (Nat.le_of_eq (by kernel_rfl)) (by kernel_rfl) (by kernel_rfl) (fun _ _ _ h => h) (HS0.out) (Or.inl ⟨by kernel_rfl, ?hy365⟩) ?r365
                case hy365 =>
                  intro w hSw
                  try dsimp only at hSw
                  go_simp
                  first | (obtain ⟨y0, ⟨y1', y2, y3⟩, y4, y5⟩ := hSw; go_simp) | skip
                  try with_reducible rfl
                try simp only [Act.put, List.getElem_toArray, List.getElem_cons_succ, List.getElem_cons_zero, List.setIfInBounds_toArray, List.set_cons_zero, List.set_cons_succ]
                refine AnyBut.takeS (i := 13) (v := ?v366) rfl (by kernel_rfl) (Nat.le_of_eq (by kernel_rfl)) (by kernel_rfl) (by kernel_rfl) (fun _ _ _ h => h) (HS0.out) (Or.inl ⟨by kernel_rfl, ?hy366⟩) ?r366
                case hy366 =>
                  intro w hSw
                  try dsimp only at hSw
                  go_simp
                  first | (obtain ⟨y0, ⟨y1', y2, y3⟩, y4, y5⟩ := hSw; go_simp) | skip
                  try with_reducible rfl
                try simp only [Act.put, List.getElem_toArray, List.getElem_cons_succ, List.getElem_cons_zero, List.setIfInBounds_toArray, List.set_cons_zero, List.set_cons_succ]
                refine AnyBut.takeS (i := 14) (v := ?v367) rfl (by kernel_rfl) (Nat.le_of_eq (by kernel_rfl)) (by kernel_rfl) (by kernel_rfl) (fun _ _ _ h => h) (HS0.out) (Or.inl ⟨by kernel_rfl, ?hy367⟩) ?r367
                case hy367 =>
                  intro w hSw
                  try dsimp only at hSw
                  go_simp
                  first | (obtain ⟨y0, ⟨y1', y2, y3⟩, y4, y5⟩ := hSw; go_simp) | skip
                  try with_reducible rfl
                try simp only [Act.put, List.getElem_toArray, List.getElem_cons_succ, List.getElem_cons_zero, List.setIfInBounds_toArray, List.set_cons_zero, List.set_cons_succ]
                refine AnyBut.takeS (i := 15) (v := ?v368) rfl (by kernel_rfl) (Nat.le_of_eq (by kernel_rfl)) (by kernel_rfl) (by kernel_rfl) (fun _ _ _ h => h) (HS0.out) (Or.inl ⟨by kernel_rfl, ?hy368⟩) ?r368
                case hy368 =>
                  intro w hSw
                  try dsimp only at hSw
                  go_simp
                  first | (obtain ⟨y0, ⟨y1', y2, y3⟩, y4, y5⟩ := hSw; go_simp) | skip
                  try with_reducible rfl
                try simp only [Act.put, List.getElem_toArray, List.getElem_cons_succ, List.getElem_cons_zero, List.setIfInBounds_toArray, List.set_cons_zero, List.set_cons_succ]
                refine AnyBut.takeS (i := 16) (v := ?v369) rfl (by kernel_rfl) (Nat.le_of_eq (by kernel_rfl)) (by kernel_rfl) (by kernel_rfl) (fun _ _ _ h => h) (HS0.out) (Or.inl ⟨by kernel_rfl, ?hy369⟩) ?r369
                case hy369 =>
                  intro w hSw
                  try dsimp only at hSw
                  go_simp
                  first | (obtain ⟨y0, ⟨y1', y2, y3⟩, y4, y5⟩ := hSw; go_simp) | skip
                  try with_reducible rfl
                try simp only [Act.put, List.getElem_toArray, List.getElem_cons_succ, List.getElem_cons_zero, List.setIfInBounds_toArray, List.set_cons_zero, List.set_cons_succ]
                refine AnyBut.takeS (i := 17) (v := ?v370) rfl (by kernel_rfl) (Nat.le_of_eq (by kernel_rfl)) (by kernel_rfl) (by kernel_rfl) (fun _ _ _ h => h) (HS0.out) (Or.inl ⟨by kernel_rfl, ?hy370⟩) ?r370
                case hy370 =>
                  intro w hSw
                  try dsimp only at hSw
                  go_simp
                  first | (obtain ⟨y0, ⟨y1', y2, y3⟩, y4, y5⟩ := hSw; go_simp) | skip
                  try with_reducible rfl
                try simp only [Act.put, List.getElem_toArray, List.getElem_cons_succ, List.getElem_cons_zero, List.setIfInBounds_toArray, List.set_cons_zero, List.set_cons_succ]
                refine AnyBut.takeS (i := 18) (v := ?v371) rfl (by kernel_rfl) (Nat.le_of_eq (by kernel_rfl)) (by kernel_rfl) (by kernel_rfl) (fun _ _ _ h => h) (HS0.out) (Or.inl ⟨by kernel_rfl, ?hy371⟩) ?r371
                case hy371 =>
                  intro w hSw
                  try dsimp only at hSw
                  go_simp
                  first | (obtain ⟨y0, ⟨y1', y2, y3⟩, y4, y5⟩ := hSw; go_simp) | skip
                  try with_reducible rfl
                try simp only [Act.put, List.getElem_toArray, List.getElem_cons_succ, List.getElem_cons_zero, List.setIfInBounds_toArray, List.set_cons_zero, List.set_cons_succ]
                refine AnyBut.takeS (i := 19) (v := ?v372) rfl (by kernel_rfl) (Nat.le_of_eq (by kernel_rfl)) (by kernel_rfl) (by kernel_rfl) (fun _ _ _ h => h) (HS0.out) (Or.inl ⟨by kernel_rfl, ?hy372⟩) ?r372
                case hy372 =>
                  intro w hSw
                  try dsimp only at hSw
                  go_simp
                  first | (obtain ⟨y0, ⟨y1', y2, y3⟩, y4, y5⟩ := hSw; go_simp) | skip
                  try with_reducible rfl
                try simp only [Act.put, List.getElem_toArray, List.getElem_cons_succ, List.getElem_cons_zero, List.setIfInBounds_toArray, List.set_cons_zero, List.set_cons_succ]
                refine AnyBut.takeS (i := 20) (v := ?v373) rfl (by kernel_rfl) (Nat.le_of_eq (by kernel_rfl)) (by kernel_rfl) (by kernel_rfl) (fun _ _ _ h => h) (HS0.out) (Or.inl ⟨by kernel_rfl, ?hy373⟩) ?r373
                case hy373 =>
                  intro w hSw
                  try dsimp only at hSw
                  go_simp
                  first | (obtain ⟨y0, ⟨y1', y2, y3⟩, y4, y5⟩ := hSw; go_simp) | skip
                  try with_reducible rfl
                try simp only [Act.put, List.getElem_toArray, List.getElem_cons_succ, List.getElem_cons_zero, List.setIfInBounds_toArray, List.set_cons_zero, List.set_cons_succ]
                refine AnyBut.takeS (i := 21) (v := ?v374) rfl (by kernel_rfl) (Nat.le_of_eq (by kernel_rfl)) (by kernel_rfl) (by kernel_rfl) (fun _ _ _ h => h) (HS0.out) (Or.inl ⟨by kernel_rfl, ?hy374⟩) ?r374
                case hy374 =>
                  intro w hSw
                  try dsimp only at hSw
                  go_simp
                  first | (obtain ⟨y0, ⟨y1', y2, y3⟩, y4, y5⟩ := hSw; go_simp) | skip
                  try with_reducible rfl
                try simp only [Act.put, List.getElem_toArray, List.getElem_cons_succ, List.getElem_cons_zero, List.setIfInBounds_toArray, List.set_cons_zero, List.set_cons_succ]
                refine AnyBut.takeS (i := 22) (v := ?v375) rfl (by kernel_rfl) (Nat.le_of_eq (by kernel_rfl)) (by kernel_rfl) (by kernel_rfl) (fun _ _ _ h => h) (HS0.out) (Or.inl ⟨by kernel_rfl, ?hy375⟩) ?r375
                case hy375 =>
                  intro w hSw
                  try dsimp only at hSw
                  go_simp
                  first | (obtain ⟨y0, ⟨y1', y2, y3⟩, y4, y5⟩ := hSw; go_simp) | skip
                  try with_reducible rfl
                try simp only [Act.put, List.getElem_toArray, List.getElem_cons_succ, List.getElem_cons_zero, List.setIfInBounds_toArray, List.set_cons_zero, List.set_cons_succ]
                refine AnyBut.takeS (i := 23) (v := ?v376) rfl (by kernel_rfl) (Nat.le_of_eq (by kernel_rfl)) (by kernel_rfl) (by kernel_rfl) (fun _ _ _ h => h) (HS0.out) (Or.inl ⟨by kernel_rfl, ?hy376⟩) ?r376
                case hy376 =>
                  intro w hSw
                  try dsimp only at hSw
                  go_simp
                  first | (obtain ⟨y0, ⟨y1', y2, y3⟩, y4, y5⟩ := hSw; go_simp) | skip
                  try with_reducible rfl
                try simp only [Act.put, List.getElem_toArray, List.getElem_cons_succ, List.getElem_cons_zero, List.setIfInBounds_toArray, List.set_cons_zero, List.set_cons_succ]
                refine AnyBut.takeS (i := 24) (v := ?v377) rfl (by kernel_rfl) (Nat.le_of_eq (by kernel_rfl)) (by kernel_rfl) (by kernel_rfl) (fun _ _ _ h => h) (HS0.out) (Or.inl ⟨by kernel_rfl, ?hy377⟩) ?r377
                case hy377 =>
                  intro w hSw
                  try dsimp only at hSw
                  go_simp
                  first | (obtain ⟨y0, ⟨y1', y2, y3⟩, y4, y5⟩ := hSw; go_simp) | skip
                  try with_reducible rfl
                try simp only [Act.put, List.getElem_toArray, List.getElem_cons_succ, List.getElem_cons_zero, List.setIfInBounds_toArray, List.set_cons_zero, List.set_cons_succ]
                refine AnyBut.takeS (i := 25) (v := ?v378) rfl (by kernel_rfl) (Nat.le_of_eq (by kernel_rfl)) (by kernel_rfl) (by kernel_rfl) (fun _ _ _ h => h) (HS0.out) (Or.inl ⟨by kernel_rfl, ?hy378⟩) ?r378
                case hy378 =>
                  intro w hSw
                  try dsimp only at hSw
                  go_simp
                  first | (obtain ⟨y0, ⟨y1', y2, y3⟩, y4, y5⟩ := hSw; go_simp) | skip
                  try with_reducible rfl
                try simp only [Act.put, List.getElem_toArray, List.getElem_cons_succ, List.getElem_cons_zero, List.setIfInBounds_toArray, List.set_cons_zero, List.set_cons_succ]
                refine AnyBut.takeS (i := 26) (v := ?v379) rfl (by kernel_rfl) (Nat.le_of_eq (by kernel_rfl)) (by kernel_rfl) (by kernel_rfl) (fun _ _ _ h => h) (HS0.out) (Or.inl ⟨by kernel_rfl, ?hy379⟩) ?r379
                case hy379 =>
                  intro w hSw
                  try dsimp only at hSw
                  go_simp
                  first | (obtain ⟨y0, ⟨y1', y2, y3⟩, y4, y5⟩ := hSw; go_simp) | skip
                  try with_reducible rfl
                try simp only [Act.put, List.getElem_toArray, List.getElem_cons_succ, List.getElem_cons_zero, List.setIfInBounds_toArray, List.set_cons_zero, List.set_cons_succ]
                refine AnyBut.takeS (i := 27) (v := ?v380) rfl (by kernel_rfl) (Nat.le_of_eq (by kernel_rfl)) (by kernel_rfl) (by kernel_rfl) (fun _ _ _ h => h) (HS0.out) (Or.inl ⟨by kernel_rfl, ?hy380⟩) ?r380
                case hy380 =>
                  intro w hSw
                  try dsimp only at hSw
                  go_simp
                  first | (obtain ⟨y0, ⟨y1', y2, y3⟩, y4, y5⟩ := hSw; go_simp) | skip
                  try with_reducible rfl
                try simp only [Act.put, List.getElem_toArray, List.getElem_cons_succ, List.getElem_cons_zero, List.setIfInBounds_toArray, List.set_cons_zero, List.set_cons_succ]
                refine AnyBut.takeS (i := 28) (v := ?v381) rfl (by kernel_rfl) (Nat.le_of_eq (by kernel_rfl)) (by kernel_rfl) (by kernel_rfl) (fun _ _ _ h => h) (HS0.out) (Or.inl ⟨by kernel_rfl, ?hy381⟩) ?r381
                case hy381 =>
                  intro w hSw
                  try dsimp only at hSw
                  go_simp
                  first | (obtain ⟨y0, ⟨y1', y2, y3⟩, y4, y5⟩ := hSw; go_simp) | skip
                  try with_reducible rfl
                try simp only [Act.put, List.getElem_toArray, List.getElem_cons_succ, List.getElem_cons_zero, List.setIfInBounds_toArray, List.set_cons_zero, List.set_cons_succ]
                refine AnyBut.takeS (i := 29) (v := ?v382) rfl (by kernel_rfl) (Nat.le_of_eq (by kernel_rfl)) (by kernel_rfl) (by kernel_rfl) (fun _ _ _ h => h) (HS0.out) (Or.inl ⟨by kernel_rfl, ?hy382⟩) ?r382
                case hy382 =>
                  intro w hSw
                  try dsimp only at hSw
                  go_simp
                  first | (obtain ⟨y0, ⟨y1', y2, y3⟩, y4, y5⟩ := hSw; go_simp) | skip
                  try with_reducible rfl
                try simp only [Act.put, List.getElem_toArray, List.getElem_cons_succ, List.getElem_cons_zero, List.setIfInBounds_toArray, List.set_cons_zero, List.set_cons_succ]
                refine AnyBut.takeS (i := 30) (v := ?v383) rfl (by kernel_rfl) (Nat.le_of_eq (by kernel_rfl)) (by kernel_rfl) (by kernel_rfl) (fun _ _ _ h => h) (HS0.out) (Or.inl ⟨by kernel_rfl, ?hy383⟩) ?r383
                case hy383 =>
                  intro w hSw
                  try dsimp only at hSw
                  go_simp
                  first | (obtain ⟨y0, ⟨y1', y2, y3⟩, y4, y5⟩ := hSw; go_simp) | skip
                  try with_reducible rfl
                try simp only [Act.put, List.getElem_toArray, List.getElem_cons_succ, List.getElem_cons_zero, List.setIfInBounds_toArray, List.set_cons_zero, List.set_cons_succ]
                refine AnyBut.takeS (i := 31) (v := ?v384) rfl (by kernel_rfl) (Nat.le_of_eq (by kernel_rfl)) (by kernel_rfl) (by kernel_rfl) (fun _ _ _ h => h) (HS0.out) (Or.inl ⟨by kernel_rfl, ?hy384⟩) ?r384
                case hy384 =>
                  intro w hSw
                  try dsimp only at hSw
                  go_simp
                  first | (obtain ⟨y0, ⟨y1', y2, y3⟩, y4, y5⟩ := hSw; go_simp) | skip
                  try with_reducible rfl
                try simp only [Act.put, List.getElem_toArray, List.getElem_cons_succ, List.getElem_cons_zero, List.setIfInBounds_toArray, List.set_cons_zero, List.set_cons_succ]
                refine AnyBut.takeS (i := 32) (v := ?v385) rfl (by kernel_rfl) (Nat.le_of_eq (by kernel_rfl)) (by kernel_rfl) (by kernel_rfl) (fun _ _ _ h => h) (HS0.out) (Or.inl ⟨by kernel_rfl, ?hy385⟩) ?r385
                case hy385 =>
                  intro w hSw
                  try dsimp only at hSw
                  go_simp
                  first | (obtain ⟨y0, ⟨y1', y2, y3⟩, y4, y5⟩ := hSw; go_simp) | skip
                  try with_reducible rfl
                try simp only [Act.put, List.getElem_toArray, List.getElem_cons_succ, List.getElem_cons_zero, List.setIfInBounds_toArray, List.set_cons_zero, List.set_cons_succ]
                refine AnyBut.takeS (i := 33) (v := ?v386) rfl (by kernel_rfl) (Nat.le_of_eq (by kernel_rfl)) (by kernel_rfl) (by kernel_rfl) (fun _ _ _ h => h) (HS0.out) (Or.inl ⟨by kernel_rfl, ?hy386⟩) ?r386
                case hy386 =>
                  intro w hSw
                  try dsimp only at hSw
                  go_simp
                  first | (obtain ⟨y0, ⟨y1', y2, y3⟩, y4, y5⟩ := hSw; go_simp) | skip
                  try with_reducible rfl
                try simp only [Act.put, List.getElem_toArray, List.getElem_cons_succ, List.getElem_cons_zero, List.setIfInBounds_toArray, List.set_cons_zero, List.set_cons_succ]
                refine AnyBut.takeS (i := 34) (v := ?v387) rfl (by kernel_rfl) (Nat.le_of_eq (by kernel_rfl)) (by kernel_rfl) (by kernel_rfl) (fun _ _ _ h => h) (HS0.out) (Or.inl ⟨by kernel_rfl, ?hy387⟩) ?r387
                case hy387 =>
                  intro w hSw
                  try dsimp only at hSw
                  go_simp
                  first | (obtain ⟨y0, ⟨y1', y2, y3⟩, y4, y5⟩ := hSw; go_simp) | skip
                  try with_reducible rfl
                try simp only [Act.put, List.getElem_toArray, List.getElem_cons_succ, List.getElem_cons_zero, List.setIfInBounds_toArray, List.set_cons_zero, List.set_cons_succ]
                refine AnyBut.takeS (i := 35) (v := ?v388) rfl (by kernel_rfl) (Nat.le_of_eq (by kernel_rfl)) (by kernel_rfl) (by kernel_rfl) (fun _ _ _ h => h) (HS0.out) (Or.inl ⟨by kernel_rfl, ?hy388⟩) ?r388
                case hy388 =>
                  intro w hSw
                  try dsimp only at hSw
                  go_simp
                  first | (obtain ⟨y0, ⟨y1', y2, y3⟩, y4, y5⟩ := hSw; go_simp) | skip
                  try with_reducible rfl
                try simp only [Act.put, List.getElem_toArray, List.getElem_cons_succ, List.getElem_cons_zero, List.setIfInBounds_toArray, List.set_cons_zero, List.set_cons_succ]
                refine AnyBut.takeS (i := 36) (v := ?v389) rfl (by kernel_rfl) (Nat.le_of_eq (by kernel_rfl)) (by kernel_rfl) (by kernel_rfl) (fun _ _ _ h => h) (HS0.out) (Or.inl ⟨by kernel_rfl, ?hy389⟩) ?r389
                case hy389 =>
                  intro w hSw
                  try dsimp only at hSw
                  go_simp
                  first | (obtain ⟨y0, ⟨y1', y2, y3⟩, y4, y5⟩ := hSw; go_simp) | skip
                  try with_reducible rfl
                try simp only [Act.put, List.getElem_toArray, List.getElem_cons_succ, List.getElem_cons_zero, List.setIfInBounds_toArray, List.set_cons_zero, List.set_cons_succ]
                refine AnyBut.takeS (i := 37) (v := ?v390) rfl (by kernel_rfl) (Nat.le_of_eq (by kernel_rfl)) (by kernel_rfl) (by kernel_rfl) (fun _ _ _ h => h) (HS0.out) (Or.inl ⟨by kernel_rfl, ?hy390⟩) ?r390
                case hy390 =>
                  intro w hSw
                  try dsimp only at hSw
                  go_simp
                  first | (obtain ⟨y0, ⟨y1', y2, y3⟩, y4, y5⟩ := hSw; go_simp) | skip
                  try with_reducible rfl
                try simp only [Act.put, List.getElem_toArray, List.getElem_cons_succ, List.getElem_cons_zero, List.setIfInBounds_toArray, List.set_cons_zero, List.set_cons_succ]
                refine AnyBut.takeS (i := 38) (v := ?v391) rfl (by kernel_rfl) (Nat.le_of_eq (by kernel_rfl)) (by kernel_rfl) (by kernel_rfl) (fun _ _ _ h => h) (HS0.out) (Or.inl ⟨by kernel_rfl, ?hy391⟩) ?r391
                case hy391 =>
                  intro w hSw
                  try dsimp only at hSw
                  go_simp
                  first | (obtain ⟨y0, ⟨y1', y2, y3⟩, y4, y5⟩ := hSw; go_simp) | skip
                  try with_reducible rfl
                try simp only [Act.put, List.getElem_toArray, List.getElem_cons_succ, List.getElem_cons_zero, List.setIfInBounds_toArray, List.set_cons_zero, List.set_cons_succ]
                refine AnyBut.takeS (i := 39) (v := ?v392) rfl (by kernel_rfl) (Nat.le_of_eq (by kernel_rfl)) (by kernel_rfl) (by kernel_rfl) (fun _ _ _ h => h) (HS0.out) (Or.inl ⟨by kernel_rfl, ?hy392⟩) ?r392
                case hy392 =>
                  intro w hSw
                  try dsimp only at hSw
                  go_simp
                  first | (obtain ⟨y0, ⟨y1', y2, y3⟩, y4, y5⟩ := hSw; go_simp) | skip
                  try with_reducible rfl
                try simp only [Act.put, List.getElem_toArray, List.getElem_cons_succ, List.getElem_cons_zero, List.setIfInBounds_toArray, List.set_cons_zero, List.set_cons_succ]
                refine AnyBut.takeS (i := 40) (v := ?v393) rfl (by kernel_rfl) (Nat.le_of_eq (by kernel_rfl)) (by kernel_rfl) (by kernel_rfl) (fun _ _ _ h => h) (HS0.out) (Or.inl ⟨by kernel_rfl, ?hy393⟩) ?r393
                case hy393 =>
                  intro w hSw
                  try dsimp only at hSw
                  go_simp
                  first | (obtain ⟨y0, ⟨y1', y2, y3⟩, y4, y5⟩ := hSw; go_simp) | skip
                  try with_reducible rfl
                try simp only [Act.put, List.getElem_toArray, List.getElem_cons_succ, List.getElem_cons_zero, List.setIfInBounds_toArray, List.set_cons_zero, List.set_cons_succ]
                refine AnyBut.takeS (i := 41) (v := ?v394) rfl (by kernel_rfl) (Nat.le_of_eq (by kernel_rfl)) (by kernel_rfl) (by kernel_rfl) (fun _ _ _ h => h) (HS0.out) (Or.inl ⟨by kernel_rfl, ?hy394⟩) ?r394
                case hy394 =>
                  intro w hSw
                  try dsimp only at hSw
                  go_simp
                  first | (obtain ⟨y0, ⟨y1', y2, y3⟩, y4, y5⟩ := hSw; go_simp) | skip
                  try with_reducible rfl
                try simp only [Act.put, List.getElem_toArray, List.getElem_cons_succ, List.getElem_cons_zero, List.setIfInBounds_toArray, List.set_cons_zero, List.set_cons_succ]
                refine AnyBut.takeS (i := 42) (v := ?v395) rfl (by kernel_rfl) (Nat.le_of_eq (by kernel_rfl)) (by kernel_rfl) (by kernel_rfl) (fun _ _ _ h => h) (HS0.out) (Or.inl ⟨by kernel_rfl, ?hy395⟩) ?r395
                case hy395 =>
                  intro w hSw
                  try dsimp only at hSw
                  go_simp
                  first | (obtain ⟨y0, ⟨y1', y2, y3⟩, y4, y5⟩ := hSw; go_simp) | skip
                  try with_reducible rfl
                try simp only [Act.put, List.getElem_toArray, List.getElem_cons_succ, List.getElem_cons_zero, List.setIfInBounds_toArray, List.set_cons_zero, List.set_cons_succ]
                refine AnyBut.takeS (i := 43) (v := ?v396) rfl (by kernel_rfl) (Nat.le_of_eq (by kernel_rfl)) (by kernel_rfl) (by kernel_rfl) (fun _ _ _ h => h) (HS0.out) (Or.inl ⟨by kernel_rfl, ?hy396⟩) ?r396
                case hy396 =>
                  intro w hSw
                  try dsimp only at hSw
                  go_simp
                  first | (obtain ⟨y0, ⟨y1', y2, y3⟩, y4, y5⟩ := hSw; go_simp) | skip
                  try with_reducible rfl
                try simp only [Act.put, List.getElem_toArray, List.getElem_cons_succ, List.getElem_cons_zero, List.setIfInBounds_toArray, List.set_cons_zero, List.set_cons_succ]
                refine AnyBut.done (by kernel_rfl) ?_
                go_wp2
                go_roundg (m - (i + 1))
                case measure => have := HD.out; omega
                case rel => exact ⟨i + 1, HD.out, rfl, rfl, by rw [HSX.out], HKR.out.trans ((Kept.refl _ _).drew)⟩
              · have ql : decide (x1 < x0) = false := decide_eq_false hlt
                have q4 := HF4.out (fun h => hlt h.2.2)
                clear hst hmo hlt
                have HS0 : Hid ((fun w' => w'.cell? ⟨go, oo + i * 17 + 16, none⟩ = some (.int .i64 fl) ∧ (w'.cell? ⟨gi, oi + i * 17 + 4, none⟩ = some (.bool true) ∧ w'.cell? ⟨gi, oi + i * 17 + 5, none⟩ = some (.int .i64 s1) ∧ w'.cell? ⟨gi, oi + i * 17 + 7, none⟩ = some (.int .i64 x1)) ∧ w'.cell? ⟨gi, oi + j * 17 + 5, none⟩ = some (.int .i64 s0) ∧ w'.cell? ⟨gi, oi + j * 17 + 7, none⟩ = some (.int .i64 x0)) wr.drew) := Lib.hid ⟨t16, ⟨r4, r5, r7⟩, z5, z7⟩
                refine AnyBut.start (S := fun w' => w'.cell? ⟨go, oo + i * 17 + 16, none⟩ = some (.int .i64 fl) ∧ (w'.cell? ⟨gi, oi + i * 17 + 4, none⟩ = some (.bool true) ∧ w'.cell? ⟨gi, oi + i * 17 + 5, none⟩ = some (.int .i64 s1) ∧ w'.cell? ⟨gi, oi + i * 17 + 7, none⟩ = some (.int .i64 x1)) ∧ w'.cell? ⟨gi, oi + j * 17 + 5, none⟩ = some (.int .i64 s0) ∧ w'.cell? ⟨gi, oi + j * 17 + 7, none⟩ = some (.int .i64 x0)) (k := 44) (by kernel_rfl) ?_
                refine AnyBut.takeS (i := 0) (v := ?v397) rfl (by kernel_rfl) (Nat.le_of_eq (by kernel_rfl)) (by kernel_rfl) (by kernel_rfl) (fun _ _ _ h => h) (HS0.out) (Or.inl ⟨by kernel_rfl, ?hy397⟩) ?r397
                case hy397 =>
                  intro w hSw
                  try dsimp only at hSw
                  go_simp
                  first | (obtain ⟨y0, ⟨y1', y2, y3⟩, y4, y5⟩ := hSw; go_simp) | skip
                  try with_reducible rfl
                try simp only [Act.put, List.getElem_toArray, List.getElem_cons_zero, List.setIfInBounds_toArray, List.set_cons_zero, List.set_cons_succ]
                refine AnyBut.takeS (i := 1) (v := ?v398) rfl (by kernel_rfl) (Nat.le_of_eq (by kernel_rfl)) (by kernel_rfl) (by kernel_rfl) (fun _ _ _ h => h) (HS0.out) (Or.inl ⟨by kernel_rfl, ?hy398⟩) ?r398
                case hy398 =>
                  intro w hSw
                  try dsimp only at hSw
                  go_simp
                  first | (obtain ⟨y0, ⟨y1', y2, y3⟩, y4, y5⟩ := hSw; go_simp) | skip
                  try with_reducible rfl
                try simp only [Act.put, List.getElem_toArray, List.getElem_cons_succ, List.getElem_cons_zero, List.setIfInBounds_toArray, List.set_cons_zero, List.set_cons_succ]
                refine AnyBut.takeS (i := 2) (v := ?v399) rfl (by kernel_rfl) (Nat.le_of_eq (by kernel_rfl)) (by kernel_rfl) (by kernel_rfl) (fun _ _ _ h => h) (HS0.out) (Or.inl ⟨by kernel_rfl, ?hy399⟩) ?r399
                case hy399 =>
                  intro w hSw
                  try dsimp only at hSw
                  go_simp
                  first | (obtain ⟨y0, ⟨y1', y2, y3⟩, y4, y5⟩ := hSw; go_simp) | skip
                  try with_reducible rfl
                try simp only [Act.put, List.getElem_toArray, List.getElem_cons_succ, List.getElem_cons_zero, List.setIfInBounds_toArray, List.set_cons_zero, List.set_cons_succ]
                refine AnyBut.takeS (i := 3) (v := ?v400) rfl (by kernel_rfl) (Nat.le_of_eq (by kernel_rfl)) (by kernel_rfl) (by kernel_rfl) (fun _ _ _ h => h) (HS0.out) (Or.inl ⟨by kernel_rfl, ?hy400⟩) ?r400
                case hy400 =>
                  intro w hSw
                  try dsimp only at hSw
                  go_simp
                  first | (obtain ⟨y0, ⟨y1', y2, y3⟩, y4, y5⟩ := hSw; go_simp) | skip
                  try with_reducible rfl
                try simp only [Act.put, List.getElem_toArray, List.getElem_cons_succ, List.getElem_cons_zero, List.setIfInBounds_toArray, List.set_cons_zero, List.set_cons_succ]
                refine AnyBut.takeS (i := 4) (v := ?v401) rfl (by kernel_rfl) (Nat.le_of_eq (by kernel_rfl)) (by kernel_rfl) (by kernel_rfl) (fun _ _ _ h => h) (HS0.out) (Or.inl ⟨by kernel_rfl, ?hy401⟩) ?r401
                case hy401 =>
                  intro w hSw
                  try dsimp only at hSw
                  go_simp
                  first | (obtain ⟨y0, ⟨y1', y2, y3⟩, y4, y5⟩ := hSw; go_simp) | skip
                  try with_reducible rfl
                try simp only [Act.put, List.getElem_toArray, List.getElem_cons_succ, List.getElem_cons_zero, List.setIfInBounds_toArray, List.set_cons_zero, List.set_cons_succ]
                refine AnyBut.takeS (i := 5) (v := ?v402) rfl (by kernel_rfl) (Nat.le_of_eq (by kernel_rfl)) (by kernel_rfl) (by kernel_rfl) (fun _ _ _ h => h) (HS0.out) (Or.inl ⟨by kernel_rfl, ?hy402⟩) ?r402
                case hy402 =>
                  intro w hSw
                  try dsimp only at hSw
                  go_simp
                  first | (obtain ⟨y0, ⟨y1', y2, y3⟩, y4, y5⟩ := hSw; go_simp) | skip
                  try with_reducible rfl
                try simp only [Act.put, List.getElem_toArray, List.getElem_cons_succ, List.getElem_cons_zero, List.setIfInBounds_toArray, List.set_cons_zero, List.set_cons_succ]
                refine AnyBut.takeS (i := 6) (v := ?v403) rfl (by kernel_rfl) (Nat.le_of_eq (by kernel_rfl)) (by kernel_rfl) (by kernel_rfl) (fun _ _ _ h => h) (HS0.out) (Or.inl ⟨by kernel_rfl, ?hy403⟩) ?r403
                case hy403 =>
                  intro w hSw
                  try dsimp only at hSw
                  go_simp
                  first | (obtain ⟨y0, ⟨y1', y2, y3⟩, y4, y5⟩ := hSw; go_simp) | skip
                  try with_reducible rfl
                try simp only [Act.put, List.getElem_toArray, List.getElem_cons_succ, List.getElem_cons_zero, List.setIfInBounds_toArray, List.set_cons_zero, List.set_cons_succ]
                refine AnyBut.takeS (i := 7) (v := ?v404) rfl (by kernel_rfl) (Nat.le_of_eq (by kernel_rfl)) (by kernel_rfl) (by kernel_rfl) (fun _ _ _ h => h) (HS0.out) (Or.inl ⟨by kernel_rfl, ?hy404⟩) ?r404
                case hy404 =>
                  intro w hSw
                  try dsimp only at hSw
                  go_simp
                  first | (obtain ⟨y0, ⟨y1', y2, y3⟩, y4, y5⟩ := hSw; go_simp) | skip
                  try with_reducible rfl
                try simp only [Act.put, List.getElem_toArray, List.getElem_cons_succ, List.getElem_cons_zero, List.setIfInBounds_toArray, List.set_cons_zero, List.set_cons_succ]
                refine AnyBut.takeS (i := 8) (v := ?v405) rfl (by kernel_rfl) (Nat.le_of_eq (by kernel_rfl)) (by kernel_rfl) (by kernel_rfl) (fun _ _ _ h => h) (HS0.out) (Or.inl ⟨by kernel_rfl, ?hy405⟩) ?r405
                case hy405 =>
                  intro w hSw
                  try dsimp only at hSw
                  go_simp
                  first | (obtain ⟨y0, ⟨y1', y2, y3⟩, y4, y5⟩ := hSw; go_simp) | skip
                  try with_reducible rfl
                try simp only [Act.put, List.getElem_toArray, List.getElem_cons_succ, List.getElem_cons_zero, List.setIfInBounds_toArray, List.set_cons_zero, List.set_cons_succ]
                refine AnyBut.takeS (i := 9) (v := ?v406) rfl (by kernel_rfl) (Nat.le_of_eq (by kernel_rfl)) (by kernel_rfl) (by kernel_rfl) (fun _ _ _ h => h) (HS0.out) (Or.inl ⟨by kernel_rfl, ?hy406⟩) ?r406
                case hy406 =>
                  intro w hSw
                  try dsimp only at hSw
                  go_simp
                  first | (obtain ⟨y0, ⟨y1', y2, y3⟩, y4, y5⟩ := hSw; go_simp) | skip
                  try with_reducible rfl
                try simp only [Act.put, List.getElem_toArray, List.getElem_cons_succ, List.getElem_cons_zero, List.setIfInBounds_toArray, List.set_cons_zero, List.set_cons_succ]
                refine AnyBut.takeS (i := 10) (v := ?v407) rfl (by kernel_rfl) (Nat.le_of_eq (by kernel_rfl)) (by kernel_rfl) (by kernel_rfl) (fun _ _ _ h => h) (HS0.out) (Or.inl ⟨by kernel_rfl, ?hy407⟩) ?r407
                case hy407 =>
                  intro w hSw
                  try dsimp only at hSw
                  go_simp
                  first | (obtain ⟨y0, ⟨y1', y2, y3⟩, y4, y5⟩ := hSw; go_simp) | skip
                  try with_reducible rfl
                try simp only [Act.put, List.getElem_toArray, List.getElem_cons_succ, List.getElem_cons_zero, List.setIfInBounds_toArray, List.set_cons_zero, List.set_cons_succ]
                refine AnyBut.takeS (i := 11) (v := ?v408) rfl (by kernel_rfl) (Nat.le_of_eq (by kernel_rfl)) (by kernel_rfl) (by kernel_rfl) (fun _ _ _ h => h) (HS0.out) (Or.inl ⟨by kernel_rfl, ?hy408⟩) ?r408
                case hy408 =>
                  intro w hSw
                  try dsimp only at hSw
                  go_simp
                  first | (obtain ⟨y0, ⟨y1', y2, y3⟩, y4, y5⟩ := hSw; go_simp) | skip
                  try with_reducible rfl
                try simp only [Act.put, List.getElem_toArray, List.getElem_cons_succ, List.getElem_cons_zero, List.setIfInBounds_toArray, List.set_cons_zero, List.set_cons_succ]
                refine AnyBut.takeS (i := 12) (v := ?v409) rfl (by kernel_rfl) (Nat.le_of_eq (by kernel_rfl)) (by kernel_rfl) (by kernel_rfl) (fun _ _ _ h => h) (HS0.out) (Or.inl ⟨by kernel_rfl, ?hy409⟩) ?r409
                case hy409 =>
                  intro w hSw
                  try dsimp only at hSw
                  go_simp
                  first | (obtain ⟨y0, ⟨y1', y2, y3⟩, y4, y5⟩ := hSw; go_simp) | skip
                  try with_reducible rfl
                try simp only [Act.put, List.getElem_toArray, List.getElem_cons_succ, List.getElem_cons_zero, List.setIfInBounds_toArray, List.set_cons_zero, List.set_cons_succ]
                refine AnyBut.takeS (i := 13) (v := ?v410) rfl (by kernel_rfl) (Nat.le_of_eq (by kernel_rfl)) (by kernel_rfl) (by kernel_rfl) (fun _ _ _ h => h) (HS0.out) (Or.inl ⟨by kernel_rfl, ?hy410⟩) ?r410
                case hy410 =>
                  intro w hSw
                  try dsimp only at hSw
                  go_simp
                  first | (obtain ⟨y0, ⟨y1', y2, y3⟩, y4, y5⟩ := hSw; go_simp) | skip
                  try with_reducible rfl
                try simp only [Act.put, List.getElem_toArray, List.getElem_cons_succ, List.getElem_cons_zero, List.setIfInBounds_toArray, List.set_cons_zero, List.set_cons_succ]
                refine AnyBut.takeS (i := 14) (v := ?v411) rfl (by kernel_rfl) (Nat.le_of_eq (by kernel_rfl)) (by kernel_rfl) (by kernel_rfl) (fun _ _ _ h => h) (HS0.out) (Or.inl ⟨by kernel_rfl, ?hy411⟩) ?r411
                case hy411 =>
                  intro w hSw
                  try dsimp only at hSw
                  go_simp
                  first | (obtain ⟨y0, ⟨y1', y2, y3⟩, y4, y5⟩ := hSw; go_simp) | skip
                  try with_reducible rfl
                try simp only [Act.put, List.getElem_toArray, List.getElem_cons_succ, List.getElem_cons_zero, List.setIfInBounds_toArray, List.set_cons_zero, List.set_cons_succ]
                refine AnyBut.takeS (i := 15) (v := ?v412) rfl (by kernel_rfl) (Nat.le_of_eq (by kernel_rfl)) (by kernel_rfl) (by kernel_rfl) (fun _ _ _ h => h) (HS0.out) (Or.inl ⟨by kernel_rfl, ?hy412⟩) ?r412
                case hy412 =>
                  intro w hSw
                  try dsimp only at hSw
                  go_simp
                  first | (obtain ⟨y0, ⟨y1', y2, y3⟩, y4, y5⟩ := hSw; go_simp) | skip
                  try with_reducible rfl
                try simp only [Act.put, List.getElem_toArray, List.getElem_cons_succ, List.getElem_cons_zero, List.setIfInBounds_toArray, List.set_cons_zero, List.set_cons_succ]
                refine AnyBut.takeS (i := 16) (v := ?v413) rfl (by kernel_rfl) (Nat.le_of_eq (by kernel_rfl)) (by kernel_rfl) (by kernel_rfl) (fun _ _ _ h => h) (HS0.out) (Or.inl ⟨by kernel_rfl, ?hy413⟩) ?r413
                case hy413 =>
                  intro w hSw
                  try dsimp only at hSw
                  go_simp
                  first | (obtain ⟨y0, ⟨y1', y2, y3⟩, y4, y5⟩ := hSw; go_simp) | skip
                  try with_reducible rfl
                try simp only [Act.put, List.getElem_toArray, List.getElem_cons_succ, List.getElem_cons_zero, List.setIfInBounds_toArray, List.set_cons_zero, List.set_cons_succ]
                refine AnyBut.takeS (i := 17) (v := ?v414) rfl (by kernel_rfl) (Nat.le_of_eq (by kernel_rfl)) (by kernel_rfl) (by kernel_rfl) (fun _ _ _ h => h) (HS0.out) (Or.inl ⟨by kernel_rfl, ?hy414⟩) ?r414
                case hy414 =>
                  intro w hSw
                  try dsimp only at hSw
                  go_simp
                  first | (obtain ⟨y0, ⟨y1', y2, y3⟩, y4, y5⟩ := hSw; go_simp) | skip
                  try with_reducible rfl
                try simp only [Act.put, List.getElem_toArray, List.getElem_cons_succ, List.getElem_cons_zero, List.setIfInBounds_toArray, List.set_cons_zero, List.set_cons_succ]
                refine AnyBut.takeS (i := 18) (v := ?v415) rfl (by kernel_rfl) (Nat.le_of_eq (by kernel_rfl)) (by kernel_rfl) (by kernel_rfl) (fun _ _ _ h => h) (HS0.out) (Or.inl ⟨by kernel_rfl, ?hy415⟩) ?r415
                case hy415 =>
                  intro w hSw
                  try dsimp only at hSw
                  go_simp
                  first | (obtain ⟨y0, ⟨y1', y2, y3⟩, y4, y5⟩ := hSw; go_simp) | skip
                  try with_reducible rfl
                try simp only [Act.put, List.getElem_toArray, List.getElem_cons_succ, List.getElem_cons_zero, List.setIfInBounds_toArray, List.set_cons_zero, List.set_cons_succ]
                refine AnyBut.takeS (i := 19) (v := ?v416) rfl (by kernel_rfl) (Nat.le_of_eq (by kernel_rfl)) (by kernel_rfl) (by kernel_rfl) (fun _ _ _ h => h) (HS0.out) (Or.inl ⟨by kernel_rfl, ?hy416⟩) ?r416
                case hy416 =>
                  intro w hSw
                  try dsimp only at hSw
                  go_simp
                  first | (obtain ⟨y0, ⟨y1', y2, y3⟩, y4, y5⟩ := hSw; go_simp) | skip
                  try with_reducible rfl
                try simp only [Act.put, List.getElem_toArray, List.getElem_cons_succ, List.getElem_cons_zero, List.setIfInBounds_toArray, List.set_cons_zero, List.set_cons_succ]
                refine AnyBut.takeS (i := 20) (v := ?v417) rfl (by kernel_rfl) (Nat.le_of_eq (by kernel_rfl)) (by kernel_rfl) (by kernel_rfl) (fun _ _ _ h => h) (HS0.out) (Or.inl ⟨by kernel_rfl, ?hy417⟩) ?r417
                case hy417 =>
                  intro w hSw
                  try dsimp only at hSw
                  go_simp
                  first | (obtain ⟨y0, ⟨y1', y2, y3⟩, y4, y5⟩ := hSw; go_simp) | skip
                  try with_reducible rfl
                try simp only [Act.put, List.getElem_toArray, List.getElem_cons_succ, List.getElem_cons_zero, List.setIfInBounds_toArray, List.set_cons_zero, List.set_cons_succ]
                refine AnyBut.takeS (i := 21) (v := ?v418) rfl (by kernel_rfl) (Nat.le_of_eq (by kernel_rfl)) (by kernel_rfl) (by kernel_rfl) (fun _ _ _ h => h) (HS0.out) (Or.inl ⟨by kernel_rfl, ?hy418⟩) ?r418
                case hy418 =>
                  intro w hSw
                  try dsimp only at hSw
                  go_simp
                  first | (obtain ⟨y0, ⟨y1', y2, y3⟩, y4, y5⟩ := hSw; go_simp) | skip
                  try with_reducible rfl
                try simp only [Act.put, List.getElem_toArray, List.getElem_cons_succ, List.getElem_cons_zero, List.setIfInBounds_toArray, List.set_cons_zero, List.set_cons_succ]
                refine AnyBut.takeS (i := 22) (v := ?v419) rfl (by kernel_rfl) (Nat.le_of_eq (by kernel_rfl)) (by kernel_rfl) (by kernel_rfl) (fun _ _ _ h => h) (HS0.out) (Or.inl ⟨by kernel_rfl, ?hy419⟩) ?r419
                case hy419 =>
                  intro w hSw
                  try dsimp only at hSw
                  go_simp
                  first | (obtain ⟨y0, ⟨y1', y2, y3⟩, y4, y5⟩ := hSw; go_simp) | skip
                  try with_reducible rfl
                try simp only [Act.put, List.getElem_toArray, List.getElem_cons_succ, List.getElem_cons_zero, List.setIfInBounds_toArray, List.set_cons_zero, List.set_cons_succ]
                refine AnyBut.takeS (i := 23) (v := ?v420) rfl (by kernel_rfl) (Nat.le_of_eq (by kernel_rfl)) (by kernel_rfl) (by kernel_rfl) (fun _ _ _ h => h) (HS0.out) (Or.inl ⟨by kernel_rfl, ?hy420⟩) ?r420
                case hy420 =>
                  intro w hSw
                  try dsimp only at hSw
                  go_simp
                  first | (obtain ⟨y0, ⟨y1', y2, y3⟩, y4, y5⟩ := hSw; go_simp) | skip
                  try with_reducible rfl
                try simp only [Act.put, List.getElem_toArray, List.getElem_cons_succ, List.getElem_cons_zero, List.setIfInBounds_toArray, List.set_cons_zero, List.set_cons_succ]
                refine AnyBut.takeS (i := 24) (v := ?v421) rfl (by kernel_rfl) (Nat.le_of_eq (by kernel_rfl)) (by kernel_rfl) (by kernel_rfl) (fun _ _ _ h => h) (HS0.out) (Or.inl ⟨by kernel_rfl, ?hy421⟩) ?r421
                case hy421 =>
                  intro w hSw
                  try dsimp only at hSw
                  go_simp
                  first | (obtain ⟨y0, ⟨y1', y2, y3⟩, y4, y5⟩ := hSw; go_simp) | skip
                  try with_reducible rfl
                try simp only [Act.put, List.getElem_toArray, List.getElem_cons_succ, List.getElem_cons_zero, List.setIfInBounds_toArray, List.set_cons_zero, List.set_cons_succ]
                refine AnyBut.takeS (i := 25) (v := ?v422) rfl (by kernel_rfl) (Nat.le_of_eq (by kernel_rfl)) (by kernel_rfl) (by kernel_rfl) (fun _ _ _ h => h) (HS0.out) (Or.inl ⟨by kernel_rfl, ?hy422⟩) ?r422
                case hy422 =>
                  intro w hSw
                  try dsimp only at hSw
                  go_simp
                  first | (obtain ⟨y0, ⟨y1', y2, y3⟩, y4, y5⟩ := hSw; go_simp) | skip
                  try with_reducible rfl
                try simp only [Act.put, List.getElem_toArray, List.getElem_cons_succ, List.getElem_cons_zero, List.setIfInBounds_toArray, List.set_cons_zero, List.set_cons_succ]
                refine AnyBut.takeS (i := 26) (v := ?v423) rfl (by kernel_rfl) (Nat.le_of_eq (by kernel_rfl)) (by kernel_rfl) (by kernel_rfl) (fun _ _ _ h => h) (HS0.out) (Or.inl ⟨by kernel_rfl, ?hy423⟩) ?r423
                case hy423 =>
                  intro w hSw
                  try dsimp only at hSw
                  go_simp
                  first | (obtain ⟨y0, ⟨y1', y2, y3⟩, y4, y5⟩ := hSw; go_simp) | skip
                  try with_reducible rfl
                try simp only [Act.put, List.getElem_toArray, List.getElem_cons_succ, List.getElem_cons_zero, List.setIfInBounds_toArray, List.set_cons_zero, List.set_cons_succ]
                refine AnyBut.takeS (i := 27) (v := ?v424) rfl (by kernel_rfl) (Nat.le_of_eq (by kernel_rfl)) (by kernel_rfl) (by kernel_rfl) (fun _ _ _ h => h) (HS0.out) (Or.inl ⟨by kernel_rfl, ?hy424⟩) ?r424
                case hy424 =>
                  intro w hSw
                  try dsimp only at hSw
                  go_simp
                  first | (obtain ⟨y0, ⟨y1', y2, y3⟩, y4, y5⟩ := hSw; go_simp) | skip
                  try with_reducible rfl
                try simp only [Act.put, List.getElem_toArray, List.getElem_cons_succ, List.getElem_cons_zero, List.setIfInBounds_toArray, List.set_cons_zero, List.set_cons_succ]
                refine AnyBut.takeS (i := 28) (v := ?v425) rfl (by kernel_rfl) (Nat.le_of_eq (by kernel_rfl)) (by kernel_rfl) (by kernel_rfl) (fun _ _ _ h => h) (HS0.out) (Or.inl ⟨by kernel_rfl, ?hy425⟩) ?r425
                case hy425 =>
                  intro w hSw
                  try dsimp only at hSw
                  go_simp
                  first | (obtain ⟨y0, ⟨y1', y2, y3⟩, y4, y5⟩ := hSw; go_simp) | skip
                  try with_reducible rfl
                try simp only [Act.put, List.getElem_toArray, List.getElem_cons_succ, List.getElem_cons_zero, List.setIfInBounds_toArray, List.set_cons_zero, List.set_cons_succ]
                refine AnyBut.takeS (i := 29) (v := ?v426) rfl (by kernel_rfl) (Nat.le_of_eq (by kernel_rfl)) (by kernel_rfl) (by kernel_rfl) (fun _ _ _ h => h) (HS0.out) (Or.inl ⟨by kernel_rfl, ?hy426⟩) ?r426
                case hy426 =>
                  intro w hSw
                  try dsimp only at hSw
                  go_simp
                  first | (obtain ⟨y0, ⟨y1', y2, y3⟩, y4, y5⟩ := hSw; go_simp) | skip
                  try with_reducible rfl
                try simp only [Act.put, List.getElem_toArray, List.getElem_cons_succ, List.getElem_cons_zero, List.setIfInBounds_toArray, List.set_cons_zero, List.set_cons_succ]
                refine AnyBut.takeS (i := 30) (v := ?v427) rfl (by kernel_rfl) (Nat.le_of_eq (by kernel_rfl)) (by kernel_rfl) (by kernel_rfl) (fun _ _ _ h => h) (HS0.out) (Or.inl ⟨by kernel_rfl, ?hy427⟩) ?r427
                case hy427 =>
                  intro w hSw
                  try dsimp only at hSw
                  go_simp
                  first | (obtain ⟨y0, ⟨y1', y2, y3⟩, y4, y5⟩ := hSw; go_simp) | skip
                  try with_reducible rfl
                try simp only [Act.put, List.getElem_toArray, List.getElem_cons_succ, List.getElem_cons_zero, List.setIfInBounds_toArray, List.set_cons_zero, List.set_cons_succ]
                refine AnyBut.takeS (i := 31) (v := ?v428) rfl (by kernel_rfl) (Nat.le_of_eq (by kernel_rfl)) (by kernel_rfl) (by kernel_rfl) (fun _ _ _ h => h) (HS0.out) (Or.inl ⟨by kernel_rfl, ?hy428⟩) ?r428
                case hy428 =>
                  intro w hSw
                  try dsimp only at hSw
                  go_simp
                  first | (obtain ⟨y0, ⟨y1', y2, y3⟩, y4, y5⟩ := hSw; go_simp) | skip
                  try with_reducible rfl
                try simp only [Act.put, List.getElem_toArray, List.getElem_cons_succ, List.getElem_cons_zero, List.setIfInBounds_toArray, List.set_cons_zero, List.set_cons_succ]
                refine AnyBut.takeS (i := 32) (v := ?v429) rfl (by kernel_rfl) (Nat.le_of_eq (by kernel_rfl)) (by kernel_rfl) (by kernel_rfl) (fun _ _ _ h => h) (HS0.out) (Or.inl ⟨by kernel_rfl, ?hy429⟩) ?r429
                case hy429 =>
                  intro w hSw
                  try dsimp only at hSw
                  go_simp
                  first | (obtain ⟨y0, ⟨y1', y2, y3⟩, y4, y5⟩ := hSw; go_simp) | skip
                  try with_reducible rfl
                try simp only [Act.put, List.getElem_toArray, List.getElem_cons_succ, List.getElem_cons_zero, List.setIfInBounds_toArray, List.set_cons_zero, List.set_cons_succ]
                refine AnyBut.takeS (i := 33) (v := ?v430) rfl (by kernel_rfl) (Nat.le_of_eq (by kernel_rfl)) (by kernel_rfl) (by kernel_rfl) (fun _ _ _ h => h) (HS0.out) (Or.inl ⟨by kernel_rfl, ?hy430⟩) ?r430
                case hy430 =>
                  intro w hSw
                  try dsimp only at hSw
                  go_simp
                  first | (obtain ⟨y0, ⟨y1', y2, y3⟩, y4, y5⟩ := hSw; go_simp) | skip
                  try with_reducible rfl
                try simp only [Act.put, List.getElem_toArray, List.getElem_cons_succ, List.getElem_cons_zero, List.setIfInBounds_toArray, List.set_cons_zero, List.set_cons_succ]
                refine AnyBut.takeS (i := 34) (v := ?v431) rfl (by kernel_rfl) (Nat.le_of_eq (by kernel_rfl)) (by kernel_rfl) (by kernel_rfl) (fun _ _ _ h => h) (HS0.out) (Or.inl ⟨by kernel_rfl, ?hy431⟩) ?r431
                case hy431 =>
                  intro w hSw
                  try dsimp only at hSw
                  go_simp
                  first | (obtain ⟨y0, ⟨y1', y2, y3⟩, y4, y5⟩ := hSw; go_simp) | skip
                  try with_reducible rfl
                try simp only [Act.put, List.getElem_toArray, List.getElem_cons_succ, List.getElem_cons_zero, List.setIfInBounds_toArray, List.set_cons_zero, List.set_cons_succ]
                refine AnyBut.takeS (i := 35) (v := ?v432) rfl (by kernel_rfl) (Nat.le_of_eq (by kernel_rfl)) (by kernel_rfl) (by kernel_rfl) (fun _ _ _ h => h) (HS0.out) (Or.inl ⟨by kernel_rfl, ?hy432⟩) ?r432
                case hy432 =>
                  intro w hSw
                  try dsimp only at hSw
                  go_simp
                  first | (obtain ⟨y0, ⟨y1', y2, y3⟩, y4, y5⟩ := hSw; go_simp) | skip
                  try with_reducible rfl
                try simp only [Act.put, List.getElem_toArray, List.getElem_cons_succ, List.getElem_cons_zero, List.setIfInBounds_toArray, List.set_cons_zero, List.set_cons_succ]
                refine AnyBut.takeS (i := 36) (v := ?v433) rfl (by kernel_rfl) (Nat.le_of_eq (by kernel_rfl)) (by kernel_rfl) (by kernel_rfl) (fun _ _ _ h => h) (HS0.out) (Or.inl ⟨by kernel_rfl, ?hy433⟩) ?r433
                case hy433 =>
                  intro w hSw
                  try dsimp only at hSw
                  go_simp
                  first | (obtain ⟨y0, ⟨y1', y2, y3⟩, y4, y5⟩ := hSw; go_simp) | skip
                  try with_reducible rfl
                try simp only [Act.put, List.getElem_toArray, List.getElem_cons_succ, List.getElem_cons_zero, List.setIfInBounds_toArray, List.set_cons_zero, List.set_cons_succ]
                refine AnyBut.takeS (i := 37) (v := ?v434) rfl (by kernel_rfl) (Nat.le_of_eq (by kernel_rfl)) (by kernel_rfl) (by kernel_rfl) (fun _ _ _ h => h) (HS0.out) (Or.inl ⟨by kernel_rfl, ?hy434⟩) ?r434
                case hy434 =>
                  intro w hSw
                  try dsimp only at hSw
                  go_simp
                  first | (obtain ⟨y0, ⟨y1', y2, y3⟩, y4, y5⟩ := hSw; go_simp) | skip
                  try with_reducible rfl
                try simp only [Act.put, List.getElem_toArray, List.getElem_cons_succ, List.getElem_cons_zero, List.setIfInBounds_toArray, List.set_cons_zero, List.set_cons_succ]
                refine AnyBut.takeS (i := 38) (v := ?v435) rfl (by kernel_rfl) (Nat.le_of_eq (by kernel_rfl)) (by kernel_rfl) (by kernel_rfl) (fun _ _ _ h => h) (HS0.out) (Or.inl ⟨by kernel_rfl, ?hy435⟩) ?r435
                case hy435 =>
                  intro w hSw
                  try dsimp only at hSw
                  go_simp
                  first | (obtain ⟨y0, ⟨y1', y2, y3⟩, y4, y5⟩ := hSw; go_simp) | skip
                  try with_reducible rfl
                try simp only [Act.put, List.getElem_toArray, List.getElem_cons_succ, List.getElem_cons_zero, List.setIfInBounds_toArray, List.set_cons_zero, List.set_cons_succ]
                refine AnyBut.takeS (i := 39) (v := ?v436) rfl (by kernel_rfl) (Nat.le_of_eq (by kernel_rfl)) (by kernel_rfl) (by kernel_rfl) (fun _ _ _ h => h) (HS0.out) (Or.inl ⟨by kernel_rfl, ?hy436⟩) ?r436
                case hy436 =>
                  intro w hSw
                  try dsimp only at hSw
                  go_simp
                  first | (obtain ⟨y0, ⟨y1', y2, y3⟩, y4, y5⟩ := hSw; go_simp) | skip
                  try with_reducible rfl
                try simp only [Act.put, List.getElem_toArray, List.getElem_cons_succ, List.getElem_cons_zero, List.setIfInBounds_toArray, List.set_cons_zero, List.set_cons_succ]
                refine AnyBut.takeS (i := 40) (v := ?v437) rfl (by kernel_rfl) (Nat.le_of_eq (by kernel_rfl)) (by kernel_rfl) (by kernel_rfl) (fun _ _ _ h => h) (HS0.out) (Or.inl ⟨by kernel_rfl, ?hy437⟩) ?r437
                case hy437 =>
                  intro w hSw
                  try dsimp only at hSw
                  go_simp
                  first | (obtain ⟨y0, ⟨y1', y2, y3⟩, y4, y5⟩ := hSw; go_simp) | skip
                  try with_reducible rfl
                try simp only [Act.put, List.getElem_toArray, List.getElem_cons_succ, List.getElem_cons_zero, List.setIfInBounds_toArray, List.set_cons_zero, List.set_cons_succ]
                refine AnyBut.takeS (i := 41) (v := ?v438) rfl (by kernel_rfl) (Nat.le_of_eq (by kernel_rfl)) (by kernel_rfl) (by kernel_rfl) (fun _ _ _ h => h) (HS0.out) (Or.inl ⟨by kernel_rfl, ?hy438⟩) ?r438
                case hy438 =>
                  intro w hSw
                  try dsimp only at hSw
                  go_simp
                  first | (obtain ⟨y0, ⟨y1', y2, y3⟩, y4, y5⟩ := hSw; go_simp) | skip
                  try with_reducible rfl
                try simp only [Act.put, List.getElem_toArray, List.getElem_cons_succ, List.getElem_cons_zero, List.setIfInBounds_toArray, List.set_cons_zero, List.set_cons_succ]
                refine AnyBut.takeS (i := 42) (v := ?v439) rfl (by kernel_rfl) (Nat.le_of_eq (by kernel_rfl)) (by kernel_rfl) (by kernel_rfl) (fun _ _ _ h => h) (HS0.out) (Or.inl ⟨by kernel_rfl, ?hy439⟩) ?r439
                case hy439 =>
                  intro w hSw
                  try dsimp only at hSw
                  go_simp
                  first | (obtain ⟨y0, ⟨y1', y2, y3⟩, y4, y5⟩ := hSw; go_simp) | skip
                  try with_reducible rfl
                try simp only [Act.put, List.getElem_toArray, List.getElem_cons_succ, List.getElem_cons_zero, List.setIfInBounds_toArray, List.set_cons_zero, List.set_cons_succ]
                refine AnyBut.takeS (i := 43) (v := ?v440) rfl (by kernel_rfl) (Nat.le_of_eq (by kernel_rfl)) (by kernel_rfl) (by kernel_rfl) (fun _ _ _ h => h) (HS0.out) (Or.inl ⟨by kernel_rfl, ?hy440⟩) ?r440
                case hy440 =>
                  intro w hSw
                  try dsimp only at hSw
                  go_simp
                  first | (obtain ⟨y0, ⟨y1', y2, y3⟩, y4, y5⟩ := hSw; go_simp) | skip
                  try with_reducible rfl
                try simp only [Act.put, List.getElem_toArray, List.getElem_cons_succ, List.getElem_cons_zero, List.setIfInBounds_toArray, List.set_cons_zero, List.set_cons_succ]
                refine AnyBut.done (by kernel_rfl) ?_
                go_wp2
                go_roundg (m - (i + 1))
                case measure => have := HD.out; omega
                case rel => exact ⟨i + 1, HD.out, rfl, rfl, by rw [HSX.out], HKR.out.trans ((Kept.refl _ _).drew)⟩
      · obtain rfl : m = i := by omega
        clear hd
        go_wp2
        go_ret
        exact ⟨rfl, HKW.out⟩
end Go.Proofs.Ytiiibhdohlpodaa
