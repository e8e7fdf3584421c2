/- Texts put together: what the theorem stands on. -/
import Derived.Test.YtiiibhdohlpodaaZz16
import Derived.Test.YtiiibhdohlpodaaZz17
import Derived.Test.YtiiibhdohlpodaaZz18

namespace Go.Proofs.Ytiiibhdohlpodaa
open Go.RowKit
attribute [local go_sem ↓] Go.wp_at_zero Go.wp_at_succ
theorem MineG.pts {W w : World} {v : Value} {L : List PtV} (h : MineT W w v L) : ∃ a c, v = .slice a L.length c ∧ GAt cellsPt 17 w a L := by
  obtain ⟨a, c, rfl⟩ := h.slice
  exact ⟨a, c, rfl, h.at_ cfPt⟩
set_option maxHeartbeats 4000000 in
set_option maxRecDepth 100000 in
theorem todeltaTiles_walk (aa : Option Addr) (c : Nat) (L : List PtV) (most : Int) (W : World) (hl : PtsIn W aa L) (hll : L.length ≤ 9223372036854775807) (_ : -9223372036854775808 ≤ most ∧ most ≤ 9223372036854775807) :
    Calls Try.prog 3 #[.slice aa L.length c, .int .i64 most] W fun e w' => e = .returned (.bool true) ∧ Kept (fun _ => False) W w' := by
  have HAW := Lib.hid (awake15_any W)
  have HON := Lib.hid (fun w (k : Kept (fun _ => False) W w) => one_any aa c L w (hl.on k))
  obtain ⟨n, hn⟩ : ∃ n, n = L.length := ⟨_, rfl⟩
  obtain ⟨ob, hob⟩ : ∃ b, b = oneB L := ⟨_, rfl⟩
  rw [← hob] at HON
  rw [← hn] at HON ⊢
  cases ob with
  | false =>
    clear hob hn hl hll
    go_enter Try.func3, Try.ntmps3
    go_wp2_with fail
    refine HAW.out.mono ?_
    rintro e w1 ⟨rfl, k1⟩
    have HK1 := Lib.hid k1
    clear k1
    go_wp2_with fail
    refine (HON.out w1 HK1.out).mono ?_
    rintro e w2 ⟨rfl, k2⟩
    have HK2 := Lib.hid (HK1.out.trans k2)
    clear k2
    go_wp2
    go_ret
    exact ⟨rfl, HK2.out⟩
  | true =>
    have hone := hob.symm
    unfold oneB someB at hone
    simp only [Bool.and_eq_true, decide_eq_true_eq, List.all_eq_true] at hone
    obtain ⟨kk, mm, hal⟩ : ∃ (k : Int) (b : Bool), ∀ p ∈ L, p.x.kind = k ∧ p.x.mono = b := by
      rcases hL : L[0]? with _ | z
      · refine ⟨0, false, fun p hp => ?_⟩
        have : L = [] := by cases L with | nil => rfl | cons a t => simp at hL
        rw [this] at hp; cases hp
      · refine ⟨z.x.kind, z.x.mono, fun p hp => ?_⟩
        have := hone.2 p hp; unfold alikeB at this; rw [hL] at this; simp only [Bool.and_eq_true, beq_iff_eq] at this; exact this
    have hli : ∀ p ∈ L, p.x.light := fun p hp => lightP_of (hone.1.2 p hp)
    have HPL := Lib.hid (fun w (k : Kept (fun _ => False) W w) => playD_any aa c L most w (hl.on k) hli hone.1.1)
    rw [← hn] at HPL
    have hxs : ∀ x ∈ L.map PtV.x, x.kind = kk ∧ x.mono = mm ∧ x.ok ∧ x.light := fun x hx => by obtain ⟨p, hp, rfl⟩ := List.mem_map.1 hx; exact ⟨(hal p hp).1, (hal p hp).2, (hl.each p hp).2.1, hli p hp⟩
    have HSA := Lib.hid (fun i p (h : (playD most zeroSt (L.map PtV.x))[i]? = some p) => playD_right hxs i p h)
    have HLX : Hid (∀ x ∈ L.map PtV.x, x.light) := Lib.hid (fun x hx => (hxs x hx).2.2.2)
    have hpl := playD_len most (L.map PtV.x) zeroSt
    rw [List.length_map] at hpl
    obtain ⟨PW, hPW⟩ : ∃ l, l = playD most zeroSt (L.map PtV.x) := ⟨_, rfl⟩
    rw [← hPW] at HSA hpl
    have HPW := Lib.hid hPW
    have HM : Hid (PW.length ≤ 20) := Lib.hid (by have := hone.1.1; omega)
    clear hob hn hl hll hone hli hal hxs hPW hpl
    go_enter Try.func3, Try.ntmps3
    go_wp2_with fail
    refine HAW.out.mono ?_
    rintro e w1 ⟨rfl, k1⟩
    have HK1 := Lib.hid k1
    clear k1
    go_wp2_with fail
    refine (HON.out w1 HK1.out).mono ?_
    rintro e w2 ⟨rfl, k2⟩
    have HK2 := Lib.hid (HK1.out.trans k2)
    clear k2
    go_wp2_with fail
    refine (HPL.out w2 HK2.out).mono ?_
    rintro e w3 ⟨vi, vo, NS, tp, tn, I, O, rfl, hNS, hSN, hI, hO, hIx, hOx, hNO⟩
    rw [← HPW.out] at hIx hOx
    obtain ⟨ai, ci, rfl, hIa⟩ := MineG.pts hI
    obtain ⟨ao, co, rfl, hOa⟩ := MineG.pts hO
    have hil : I.length = PW.length := by have := congrArg List.length hIx; simpa using this
    have hol : O.length = PW.length := by have := congrArg List.length hOx; simpa using this
    have HK3 := Lib.hid (HK2.out.trans hI.kept)
    have HIC : Hid (0 < PW.length → ∃ g o, ai = some ⟨g, o, none⟩) := Lib.hid (fun h => by obtain ⟨g, o, e, _⟩ := hIa (by omega); exact ⟨g, o, e⟩)
    have HOC : Hid (0 < PW.length → ∃ g o, ao = some ⟨g, o, none⟩) := Lib.hid (fun h => by obtain ⟨g, o, e, _⟩ := hOa (by omega); exact ⟨g, o, e⟩)
    have HIR : Hid (∀ w, Kept (fun _ => False) w3 w → ∀ g o i p, ai = some ⟨g, o, none⟩ → PW[i]? = some p → w.cell? ⟨g, o + i * 17 + 5, none⟩ = some (.int .i64 p.1.start) ∧ w.cell? ⟨g, o + i * 17 + 6, none⟩ = some (.int .i64 p.1.time)) := Lib.hid (fun w k g o i p e hp => by
      have hi : i < I.length := by rw [hil]; exact (List.getElem?_eq_some_iff.1 hp).1
      obtain ⟨g', o', e', hr⟩ := hIa (by omega)
      rw [e] at e'
      injection e' with e'
      injection e' with e1 e2 _
      subst e1 e2
      have hp' := List.getElem?_eq_getElem hi
      have hx : (I[i]).x = p.1 := by have := congrArg (fun l => l[i]?) hIx; simp only [List.getElem?_map, hp', hp, Option.map_some, Option.some.injEq] at this; exact this
      rw [← hx]
      exact ⟨k.cell (hr i _ hp' 5 _ rfl) (fun x => x), k.cell (hr i _ hp' 6 _ rfl) (fun x => x)⟩)
    have HOR : Hid (∀ g o i p, ao = some ⟨g, o, none⟩ → PW[i]? = some p → ∃ r : PtV, r.x = p.2 ∧ (∀ w, Kept (fun _ => False) w3 w → w.rangeAt g (o + i * 17) r.cs.toList ∧ PntAt w r.x r.aa r.ac (.slice r.pa r.x.h.pl.length r.pc) (.slice r.na r.x.h.nl.length r.nc))) := Lib.hid (fun g o i p e hp => by
      have hi : i < O.length := by rw [hol]; exact (List.getElem?_eq_some_iff.1 hp).1
      obtain ⟨g', o', e', hr⟩ := hOa (by omega)
      rw [e] at e'
      injection e' with e'
      injection e' with e1 e2 _
      subst e1 e2
      have hp' := List.getElem?_eq_getElem hi
      have hx : (O[i]).x = p.2 := by have := congrArg (fun l => l[i]?) hOx; simp only [List.getElem?_map, hp', hp, Option.map_some, Option.some.injEq] at this; exact this
      refine ⟨O[i], hx, fun w k => ⟨fun j v hv => k.cell (hr i _ hp' j v hv) (fun x => x), ?_⟩⟩
      exact (NewP.pnt (hNO _ (List.getElem_mem _))).on k)
    rw [hil, hol]
    obtain ⟨m, hm⟩ : ∃ m, m = PW.length := ⟨_, rfl⟩
    rw [← hm] at HM HIC HOC
    rw [← hm]
    have HME := Lib.hid hm
    have HIN : Hid ((Try.prog.info? 32).map (·.size) = some NS.size ∧ NS.size = 12 ∧ NS.all (·.oneCell') = true) := Lib.hid (by rw [hNS]; exact ⟨state_info, rfl, stC_one hSN.one⟩)
    clear hI hO hIx hOx hNO hIa hOa hil hol hm HON HPL HAW hNS hSN
    go_wp2_with (first | (refine wpList_store_box rfl 32 (.tmp 7) _ rfl w3 _ NS 32 rfl rfl rfl HIN.out.1 (by rw [HIN.out.2.1]; rfl) HIN.out.2.2 ?_; intro w4 hb4 k4; have HK34 := Lib.hid k4; clear hb4 k4) | fail)
    go_loopg [8] m (fun g s8 wr => ∃ i : Nat, i ≤ m ∧ g = m - i ∧ s8 = .int .i64 i ∧ Kept (fun _ => False) w3 wr)
    case atStart => exact ⟨0, Nat.zero_le _, rfl, rfl, HK34.out⟩
    case round =>
      obtain ⟨i, hin, rfl, rfl, k3r⟩ := hrel
      have HKR := Lib.hid k3r
      clear k3r
      by_cases hd : i < m
      · have hdi : (i : Int) < (m : Int) := by omega
        have hi0' : (0 : Int) ≤ (i : Int) := by omega
        have HD := Lib.hid hd
        have wi : IntKind.i64.wrap ((i : Int) + 1) = ((i + 1 : Nat) : Int) := by rw [IntWalk.i64_in _ ⟨by omega, by have := HM.out; omega⟩]; omega
        have hiP : i < PW.length := by have := HME.out; omega
        have hp := List.getElem?_eq_getElem hiP
        obtain ⟨p, hpp⟩ : ∃ p, p = PW[i] := ⟨_, rfl⟩
        rw [← hpp] at hp
        obtain ⟨gi, oi, rfl⟩ := HIC.out (by omega)
        obtain ⟨go, oo, rfl⟩ := HOC.out (by omega)
        obtain ⟨hmx, s', hst, hnp, hsd, hout, ha0, ha1⟩ := HSA.out i p hp
        obtain ⟨r, hrx, hrr⟩ := HOR.out go oo i p rfl hp
        have HRR := Lib.hid hrr
        have HIW := Lib.hid (fun w (k : Kept (fun _ => False) w3 w) => HIR.out w k gi oi i p rfl hp)
        obtain ⟨CR, hCR⟩ : ∃ c, c = r.cs := ⟨_, rfl⟩
        have HIR2 : Hid ((Try.prog.info? 37).map (·.size) = some CR.size ∧ CR.size = 17 ∧ CR.all (·.oneCell') = true) := Lib.hid (by rw [hCR]; exact ⟨pt_size r, rfl, cs_one r⟩)
        obtain ⟨fl, hfl⟩ : ∃ f, f = p.2.flags := ⟨_, rfl⟩
        obtain ⟨sv, hsv⟩ : ∃ f, f = p.2.start := ⟨_, rfl⟩
        obtain ⟨tm, htm⟩ : ∃ f, f = p.1.time := ⟨_, rfl⟩
        obtain ⟨xs, hxs⟩ : ∃ f, f = p.1.start := ⟨_, rfl⟩
        have HCC : Hid (CR[3]? = some (.int .i64 2) ∧ CR[5]? = some (.int .i64 sv) ∧ CR[6]? = some (.int .i64 tm) ∧ CR[16]? = some (.int .i64 fl)) := Lib.hid (by rw [hCR, hfl, hsv, htm, ← hout.time, ← hrx]; refine ⟨?_, rfl, rfl, rfl⟩; rw [show (2 : Int) = r.x.temp by rw [hrx, hout.temp]]; rfl)
        rw [← hxs, ← htm] at HIW
        have HCK : Hid (∀ w', Kept (fun _ => False) w3 w' → Calls Try.prog 14 #[.agg CR] w' fun e w'' => e = .returned (.int .i64 0) ∧ Kept (fun _ => False) w' w'') := Lib.hid (fun w' k => by
          have h := pCheck_any r.x r.aa r.pa r.na r.ac r.pc r.nc w' (hrr w' k).2 (by rw [hrx]; exact hout.ok) (by rw [hrx]; exact hout.light (HLX.out _ hmx))
          rw [show chk r.x = 0 by rw [hrx]; exact hout.ck] at h
          rw [hCR]
          exact h)
        have hf1 := hout.first
        have hf2 := hout.start0
        have hf3 := hout.moved
        have hf4 := hout.gap
        have hf5 := hout.own
        have hf6 := hout.goes
        have hf7 := hout.late
        rw [← hfl] at hf1 hf3 hf4
        rw [← hsv] at hf2 hf5 hf6 hf7
        rw [← hxs] at hf2 hf3 hf4 hf5 hf6
        rw [← hCR] at HRR
        clear hd hin hiP hpp hout hrx hrr hCR hfl hsv hxs hnp hst hmx hsd
        have HF := Lib.hid (And.intro hf1 (And.intro hf2 (And.intro hf3 (And.intro hf4 (And.intro hf5 (And.intro hf6 hf7))))))
        have HA := Lib.hid (And.intro ha0 ha1)
        clear hf1 hf2 hf3 hf4 hf5 hf6 hf7 ha0 ha1 hp htm
        obtain ⟨g8, hg8⟩ : ∃ g, g = wr.heap.size := ⟨_, rfl⟩
        have HG8 := Lib.hid hg8
        clear hg8
        by_cases hi : i = 0
        · have h1 : fl = 1 := HF.out.1.2 (by rw [HA.out.1 hi]; rfl)
          have HSV : Hid (sv = xs) := Lib.hid (HF.out.2.1 (by rw [HA.out.1 hi]; rfl))
          have HI0 : Hid (∀ w, Kept (fun _ => False) w3 w → w.cell? ⟨gi, oi + 5, none⟩ = some (.int .i64 xs)) := Lib.hid (fun w k => by have := (HIW.out w k).1; rw [hi] at this; simpa using this)
          have q10 : ((i : Int) == 0) = true := by rw [beq_iff_eq]; omega
          have q10' : (fl == 1) = true := by rw [beq_iff_eq]; omega
          have hm0 : (0 : Int) < (m : Int) := by omega
          have hm0n : 0 < m := by omega
          clear hi h1
          go_upto_region 10 with (first | (refine wpList_load_part rfl 37 (.tmp 31) rfl go (oo + i * 17) rfl CR _ (HRR.out wr HKR.out).1 Try.underlying37 rfl HIR2.out.1 ?_) | (refine wpList_store_box rfl 37 (.tmp 9) _ rfl wr _ CR 37 rfl rfl rfl HIR2.out.1 (by rw [HIR2.out.2.1]; rfl) HIR2.out.2.2 ?_; intro w5 hb5 k5; have HB5 : Hid (w5.heap[g8]? = some (.cells CR 37 (0, 0))) := Lib.hid (by rw [HG8.out]; exact hb5); have HK5 := Lib.hid (HKR.out.trans k5); clear hb5 k5))
          rw [← HG8.out]
          obtain ⟨wD, hwd⟩ : ∃ w', w' = w5.drew := ⟨_, rfl⟩
          have qt : (tm != tm) = false := by simp
          refine AnyBut.start (S := fun w' => w'.heap[g8]? = some (.cells CR 37 (0, 0)) ∧ (w'.cell? ⟨g8, 3, none⟩ = some (.int .i64 2) ∧ w'.cell? ⟨g8, 6, none⟩ = some (.int .i64 tm) ∧ w'.cell? ⟨g8, 16, none⟩ = some (.int .i64 fl)) ∧ w'.cell? ⟨gi, oi + i * 17 + 6, none⟩ = some (.int .i64 tm)) (k := 26) (by kernel_rfl) ?_
          rw [← hwd]
          have HKD : Hid (Kept (fun _ => False) w5 wD) := Lib.hid (by rw [hwd]; exact (Kept.refl _ _).drew)
          have HSB : Hid (∀ w', Kept (fun _ => False) w5 w' → (fun w' => w'.heap[g8]? = some (.cells CR 37 (0, 0)) ∧ (w'.cell? ⟨g8, 3, none⟩ = some (.int .i64 2) ∧ w'.cell? ⟨g8, 6, none⟩ = some (.int .i64 tm) ∧ w'.cell? ⟨g8, 16, none⟩ = some (.int .i64 fl)) ∧ w'.cell? ⟨gi, oi + i * 17 + 6, none⟩ = some (.int .i64 tm)) w') := Lib.hid (fun w' k => ⟨k.same HB5.out (fun x => x), ⟨cell_rowZ 3 _ (k.same HB5.out (fun x => x)) HCC.out.1, cell_rowZ 6 _ (k.same HB5.out (fun x => x)) HCC.out.2.2.1, cell_rowZ 16 _ (k.same HB5.out (fun x => x)) (HCC.out.2.2.2)⟩, (HIW.out w' (HK5.out.trans k)).2⟩)
          have HS0 := Lib.hid (HSB.out wD HKD.out)
          clear hwd
          refine AnyBut.takeS (i := 0) (v := ?v1) rfl (by kernel_rfl) (Nat.le_of_eq (by kernel_rfl)) (by kernel_rfl) (by kernel_rfl) (fun _ _ _ h => h) (HS0.out) (Or.inl ⟨by kernel_rfl, ?hy1⟩) ?r1
          case hy1 =>
            intro w hSw
            try dsimp only at hSw
            refine exec_load_row 37 (.tmp 9) ?_ g8 ?_ 37 _ (0, 0) _ hSw.1 Try.underlying37 rfl HIR2.out.1
            · rfl
            · rfl
          try simp only [Act.put, List.getElem_toArray, List.getElem_cons_zero, List.setIfInBounds_toArray, List.set_cons_zero, List.set_cons_succ]
          refine AnyBut.one (i := 1) (by kernel_rfl) rfl (fun K hK => ?_)
          go_simp
          go_wp2_with fail
          refine (HCK.out wD (HK5.out.trans HKD.out)).mono ?_
          rintro e w6 ⟨rfl, k6⟩
          have HS6 := Lib.hid (HSB.out w6 (HKD.out.trans k6))
          have HK6 := Lib.hid (HKD.out.trans k6)
          clear k6
          go_wp2
          refine hK.out _ _ (HS6.out) ?_
          clear hK K
          try simp only [Act.put, List.getElem_toArray, List.getElem_cons_succ, List.getElem_cons_zero, List.setIfInBounds_toArray, List.set_cons_zero, List.set_cons_succ]
          refine AnyBut.takeS (i := 2) (v := ?v2) rfl (by kernel_rfl) (Nat.le_of_eq (by kernel_rfl)) (by kernel_rfl) (by kernel_rfl) (fun _ _ _ h => h) (HS6.out) (Or.inl ⟨by kernel_rfl, ?hy2⟩) ?r2
          case hy2 =>
            intro w hSw
            try dsimp only at hSw
            go_simp
            first | (obtain ⟨z0, ⟨z1, z2, z3⟩, z4⟩ := hSw; go_simp) | skip
            try with_reducible rfl
          try simp only [Act.put, List.getElem_toArray, List.getElem_cons_succ, List.getElem_cons_zero, List.setIfInBounds_toArray, List.set_cons_zero, List.set_cons_succ]
          refine AnyBut.takeS (i := 3) (v := ?v3) rfl (by kernel_rfl) (Nat.le_of_eq (by kernel_rfl)) (by kernel_rfl) (by kernel_rfl) (fun _ _ _ h => h) (HS6.out) (Or.inl ⟨by kernel_rfl, ?hy3⟩) ?r3
          case hy3 =>
            intro w hSw
            try dsimp only at hSw
            go_simp
            first | (obtain ⟨z0, ⟨z1, z2, z3⟩, z4⟩ := hSw; go_simp) | skip
            try with_reducible rfl
          try simp only [Act.put, List.getElem_toArray, List.getElem_cons_succ, List.getElem_cons_zero, List.setIfInBounds_toArray, List.set_cons_zero, List.set_cons_succ]
          refine AnyBut.takeS (i := 4) (v := ?v4) rfl (by kernel_rfl) (Nat.le_of_eq (by kernel_rfl)) (by kernel_rfl) (by kernel_rfl) (fun _ _ _ h => h) (HS6.out) (Or.inl ⟨by kernel_rfl, ?hy4⟩) ?r4
          case hy4 =>
            intro w hSw
            try dsimp only at hSw
            go_simp
            first | (obtain ⟨z0, ⟨z1, z2, z3⟩, z4⟩ := hSw; go_simp) | skip
            try with_reducible rfl
          try simp only [Act.put, List.getElem_toArray, List.getElem_cons_succ, List.getElem_cons_zero, List.setIfInBounds_toArray, List.set_cons_zero, List.set_cons_succ]
          refine AnyBut.takeS (i := 5) (v := ?v5) rfl (by kernel_rfl) (Nat.le_of_eq (by kernel_rfl)) (by kernel_rfl) (by kernel_rfl) (fun _ _ _ h => h) (HS6.out) (Or.inl ⟨by kernel_rfl, ?hy5⟩) ?r5
          case hy5 =>
            intro w hSw
            try dsimp only at hSw
            go_simp
            first | (obtain ⟨z0, ⟨z1, z2, z3⟩, z4⟩ := hSw; go_simp) | skip
            try with_reducible rfl
          try simp only [Act.put, List.getElem_toArray, List.getElem_cons_succ, List.getElem_cons_zero, List.setIfInBounds_toArray, List.set_cons_zero, List.set_cons_succ]
          refine AnyBut.takeS (i := 6) (v := ?v6) rfl (by kernel_rfl) (Nat.le_of_eq (by kernel_rfl)) (by kernel_rfl) (by kernel_rfl) (fun _ _ _ h => h) (HS6.out) (Or.inl ⟨by kernel_rfl, ?hy6⟩) ?r6
          case hy6 =>
            intro w hSw
            try dsimp only at hSw
            go_simp
            first | (obtain ⟨z0, ⟨z1, z2, z3⟩, z4⟩ := hSw; go_simp) | skip
            try with_reducible rfl
          try simp only [Act.put, List.getElem_toArray, List.getElem_cons_succ, List.getElem_cons_zero, List.setIfInBounds_toArray, List.set_cons_zero, List.set_cons_succ]
          refine AnyBut.takeS (i := 7) (v := ?v7) rfl (by kernel_rfl) (Nat.le_of_eq (by kernel_rfl)) (by kernel_rfl) (by kernel_rfl) (fun _ _ _ h => h) (HS6.out) (Or.inl ⟨by kernel_rfl, ?hy7⟩) ?r7
          case hy7 =>
            intro w hSw
            try dsimp only at hSw
            go_simp
            first | (obtain ⟨z0, ⟨z1, z2, z3⟩, z4⟩ := hSw; go_simp) | skip
            try with_reducible rfl
          try simp only [Act.put, List.getElem_toArray, List.getElem_cons_succ, List.getElem_cons_zero, List.setIfInBounds_toArray, List.set_cons_zero, List.set_cons_succ]
          refine AnyBut.takeS (i := 8) (v := ?v8) rfl (by kernel_rfl) (Nat.le_of_eq (by kernel_rfl)) (by kernel_rfl) (by kernel_rfl) (fun _ _ _ h => h) (HS6.out) (Or.inl ⟨by kernel_rfl, ?hy8⟩) ?r8
          case hy8 =>
            intro w hSw
            try dsimp only at hSw
            go_simp
            first | (obtain ⟨z0, ⟨z1, z2, z3⟩, z4⟩ := hSw; go_simp) | skip
            try with_reducible rfl
          try simp only [Act.put, List.getElem_toArray, List.getElem_cons_succ, List.getElem_cons_zero, List.setIfInBounds_toArray, List.set_cons_zero, List.set_cons_succ]
          refine AnyBut.takeS (i := 9) (v := ?v9) rfl (by kernel_rfl) (Nat.le_of_eq (by kernel_rfl)) (by kernel_rfl) (by kernel_rfl) (fun _ _ _ h => h) (HS6.out) (Or.inl ⟨by kernel_rfl, ?hy9⟩) ?r9
          case hy9 =>
            intro w hSw
            try dsimp only at hSw
            go_simp
            first | (obtain ⟨z0, ⟨z1, z2, z3⟩, z4⟩ := hSw; go_simp) | skip
            try with_reducible rfl
          try simp only [Act.put, List.getElem_toArray, List.getElem_cons_succ, List.getElem_cons_zero, List.setIfInBounds_toArray, List.set_cons_zero, List.set_cons_succ]
          refine AnyBut.takeS (i := 10) (v := ?v10) rfl (by kernel_rfl) (Nat.le_of_eq (by kernel_rfl)) (by kernel_rfl) (by kernel_rfl) (fun _ _ _ h => h) (HS6.out) (Or.inl ⟨by kernel_rfl, ?hy10⟩) ?r10
          case hy10 =>
            intro w hSw
            try dsimp only at hSw
            go_simp
            first | (obtain ⟨z0, ⟨z1, z2, z3⟩, z4⟩ := hSw; go_simp) | skip
            try with_reducible rfl
          try simp only [Act.put, List.getElem_toArray, List.getElem_cons_succ, List.getElem_cons_zero, List.setIfInBounds_toArray, List.set_cons_zero, List.set_cons_succ]
          refine AnyBut.takeS (i := 11) (v := ?v11) rfl (by kernel_rfl) (Nat.le_of_eq (by kernel_rfl)) (by kernel_rfl) (by kernel_rfl) (fun _ _ _ h => h) (HS6.out) (Or.inl ⟨by kernel_rfl, ?hy11⟩) ?r11
          case hy11 =>
            intro w hSw
            try dsimp only at hSw
            go_simp
            first | (obtain ⟨z0, ⟨z1, z2, z3⟩, z4⟩ := hSw; go_simp) | skip
            try with_reducible rfl
          try simp only [Act.put, List.getElem_toArray, List.getElem_cons_succ, List.getElem_cons_zero, List.setIfInBounds_toArray, List.set_cons_zero, List.set_cons_succ]
          refine AnyBut.takeS (i := 12) (v := ?v12) rfl (by kernel_rfl) (Nat.le_of_eq (by kernel_rfl)) (by kernel_rfl) (by kernel_rfl) (fun _ _ _ h => h) (HS6.out) (Or.inl ⟨by kernel_rfl, ?hy12⟩) ?r12
          case hy12 =>
            intro w hSw
            try dsimp only at hSw
            go_simp
            first | (obtain ⟨z0, ⟨z1, z2, z3⟩, z4⟩ := hSw; go_simp) | skip
            try with_reducible rfl
          try simp only [Act.put, List.getElem_toArray, List.getElem_cons_succ, List.getElem_cons_zero, List.setIfInBounds_toArray, List.set_cons_zero, List.set_cons_succ]
          refine AnyBut.takeS (i := 13) (v := ?v13) rfl (by kernel_rfl) (Nat.le_of_eq (by kernel_rfl)) (by kernel_rfl) (by kernel_rfl) (fun _ _ _ h => h) (HS6.out) (Or.inl ⟨by kernel_rfl, ?hy13⟩) ?r13
          case hy13 =>
            intro w hSw
            try dsimp only at hSw
            go_simp
            first | (obtain ⟨z0, ⟨z1, z2, z3⟩, z4⟩ := hSw; go_simp) | skip
            try with_reducible rfl
          try simp only [Act.put, List.getElem_toArray, List.getElem_cons_succ, List.getElem_cons_zero, List.setIfInBounds_toArray, List.set_cons_zero, List.set_cons_succ]
          refine AnyBut.takeS (i := 14) (v := ?v14) rfl (by kernel_rfl) (Nat.le_of_eq (by kernel_rfl)) (by kernel_rfl) (by kernel_rfl) (fun _ _ _ h => h) (HS6.out) (Or.inl ⟨by kernel_rfl, ?hy14⟩) ?r14
          case hy14 =>
            intro w hSw
            try dsimp only at hSw
            go_simp
            first | (obtain ⟨z0, ⟨z1, z2, z3⟩, z4⟩ := hSw; go_simp) | skip
            try with_reducible rfl
          try simp only [Act.put, List.getElem_toArray, List.getElem_cons_succ, List.getElem_cons_zero, List.setIfInBounds_toArray, List.set_cons_zero, List.set_cons_succ]
          refine AnyBut.takeS (i := 15) (v := ?v15) rfl (by kernel_rfl) (Nat.le_of_eq (by kernel_rfl)) (by kernel_rfl) (by kernel_rfl) (fun _ _ _ h => h) (HS6.out) (Or.inl ⟨by kernel_rfl, ?hy15⟩) ?r15
          case hy15 =>
            intro w hSw
            try dsimp only at hSw
            go_simp
            first | (obtain ⟨z0, ⟨z1, z2, z3⟩, z4⟩ := hSw; go_simp) | skip
            try with_reducible rfl
          try simp only [Act.put, List.getElem_toArray, List.getElem_cons_succ, List.getElem_cons_zero, List.setIfInBounds_toArray, List.set_cons_zero, List.set_cons_succ]
          refine AnyBut.takeS (i := 16) (v := ?v16) rfl (by kernel_rfl) (Nat.le_of_eq (by kernel_rfl)) (by kernel_rfl) (by kernel_rfl) (fun _ _ _ h => h) (HS6.out) (Or.inl ⟨by kernel_rfl, ?hy16⟩) ?r16
          case hy16 =>
            intro w hSw
            try dsimp only at hSw
            go_simp
            first | (obtain ⟨z0, ⟨z1, z2, z3⟩, z4⟩ := hSw; go_simp) | skip
            try with_reducible rfl
          try simp only [Act.put, List.getElem_toArray, List.getElem_cons_succ, List.getElem_cons_zero, List.setIfInBounds_toArray, List.set_cons_zero, List.set_cons_succ]
          refine AnyBut.takeS (i := 17) (v := ?v17) rfl (by kernel_rfl) (Nat.le_of_eq (by kernel_rfl)) (by kernel_rfl) (by kernel_rfl) (fun _ _ _ h => h) (HS6.out) (Or.inl ⟨by kernel_rfl, ?hy17⟩) ?r17
          case hy17 =>
            intro w hSw
            try dsimp only at hSw
            go_simp
            first | (obtain ⟨z0, ⟨z1, z2, z3⟩, z4⟩ := hSw; go_simp) | skip
            try with_reducible rfl
          try simp only [Act.put, List.getElem_toArray, List.getElem_cons_succ, List.getElem_cons_zero, List.setIfInBounds_toArray, List.set_cons_zero, List.set_cons_succ]
          refine AnyBut.takeS (i := 18) (v := ?v18) rfl (by kernel_rfl) (Nat.le_of_eq (by kernel_rfl)) (by kernel_rfl) (by kernel_rfl) (fun _ _ _ h => h) (HS6.out) (Or.inl ⟨by kernel_rfl, ?hy18⟩) ?r18
          case hy18 =>
            intro w hSw
            try dsimp only at hSw
            go_simp
            first | (obtain ⟨z0, ⟨z1, z2, z3⟩, z4⟩ := hSw; go_simp) | skip
            try with_reducible rfl
          try simp only [Act.put, List.getElem_toArray, List.getElem_cons_succ, List.getElem_cons_zero, List.setIfInBounds_toArray, List.set_cons_zero, List.set_cons_succ]
          refine AnyBut.takeS (i := 19) (v := ?v19) rfl (by kernel_rfl) (Nat.le_of_eq (by kernel_rfl)) (by kernel_rfl) (by kernel_rfl) (fun _ _ _ h => h) (HS6.out) (Or.inl ⟨by kernel_rfl, ?hy19⟩) ?r19
          case hy19 =>
            intro w hSw
            try dsimp only at hSw
            go_simp
            first | (obtain ⟨z0, ⟨z1, z2, z3⟩, z4⟩ := hSw; go_simp) | skip
            try with_reducible rfl
          try simp only [Act.put, List.getElem_toArray, List.getElem_cons_succ, List.getElem_cons_zero, List.setIfInBounds_toArray, List.set_cons_zero, List.set_cons_succ]
          refine AnyBut.takeS (i := 20) (v := ?v20) rfl (by kernel_rfl) (Nat.le_of_eq (by kernel_rfl)) (by kernel_rfl) (by kernel_rfl) (fun _ _ _ h => h) (HS6.out) (Or.inl ⟨by kernel_rfl, ?hy20⟩) ?r20
          case hy20 =>
            intro w hSw
            try dsimp only at hSw
            go_simp
            first | (obtain ⟨z0, ⟨z1, z2, z3⟩, z4⟩ := hSw; go_simp) | skip
            try with_reducible rfl
          try simp only [Act.put, List.getElem_toArray, List.getElem_cons_succ, List.getElem_cons_zero, List.setIfInBounds_toArray, List.set_cons_zero, List.set_cons_succ]
          refine AnyBut.takeS (i := 21) (v := ?v21) rfl (by kernel_rfl) (Nat.le_of_eq (by kernel_rfl)) (by kernel_rfl) (by kernel_rfl) (fun _ _ _ h => h) (HS6.out) (Or.inl ⟨by kernel_rfl, ?hy21⟩) ?r21
          case hy21 =>
            intro w hSw
            try dsimp only at hSw
            go_simp
            first | (obtain ⟨z0, ⟨z1, z2, z3⟩, z4⟩ := hSw; go_simp) | skip
            try with_reducible rfl
          try simp only [Act.put, List.getElem_toArray, List.getElem_cons_succ, List.getElem_cons_zero, List.setIfInBounds_toArray, List.set_cons_zero, List.set_cons_succ]
          refine AnyBut.takeS (i := 22) (v := ?v22) rfl (by kernel_rfl) (Nat.le_of_eq (by kernel_rfl)) (by kernel_rfl) (by kernel_rfl) (fun _ _ _ h => h) (HS6.out) (Or.inl ⟨by kernel_rfl, ?hy22⟩) ?r22
          case hy22 =>
            intro w hSw
            try dsimp only at hSw
            go_simp
            first | (obtain ⟨z0, ⟨z1, z2, z3⟩, z4⟩ := hSw; go_simp) | skip
            try with_reducible rfl
          try simp only [Act.put, List.getElem_toArray, List.getElem_cons_succ, List.getElem_cons_zero, List.setIfInBounds_toArray, List.set_cons_zero, List.set_cons_succ]
          refine AnyBut.takeS (i := 23) (v := ?v23) rfl (by kernel_rfl) (Nat.le_of_eq (by kernel_rfl)) (by kernel_rfl) (by kernel_rfl) (fun _ _ _ h => h) (HS6.out) (Or.inl ⟨by kernel_rfl, ?hy23⟩) ?r23
          case hy23 =>
            intro w hSw
            try dsimp only at hSw
            go_simp
            first | (obtain ⟨z0, ⟨z1, z2, z3⟩, z4⟩ := hSw; go_simp) | skip
            try with_reducible rfl
          try simp only [Act.put, List.getElem_toArray, List.getElem_cons_succ, List.getElem_cons_zero, List.setIfInBounds_toArray, List.set_cons_zero, List.set_cons_succ]
          refine AnyBut.takeS (i := 24) (v := ?v24) rfl (by kernel_rfl) (Nat.le_of_eq (by kernel_rfl)) (by kernel_rfl) (by kernel_rfl) (fun _ _ _ h => h) (HS6.out) (Or.inl ⟨by kernel_rfl, ?hy24⟩) ?r24
          case hy24 =>
            intro w hSw
            try dsimp only at hSw
            go_simp
            first | (obtain ⟨z0, ⟨z1, z2, z3⟩, z4⟩ := hSw; go_simp) | skip
            try with_reducible rfl
          try simp only [Act.put, List.getElem_toArray, List.getElem_cons_succ, List.getElem_cons_zero, List.setIfInBounds_toArray, List.set_cons_zero, List.set_cons_succ]
          refine AnyBut.takeS (i := 25) (v := ?v25) rfl (by kernel_rfl) (Nat.le_of_eq (by kernel_rfl)) (by kernel_rfl) (by kernel_rfl) (fun _ _ _ h => h) (HS6.out) (Or.inl ⟨by kernel_rfl, ?hy25⟩) ?r25
          case hy25 =>
            intro w hSw
            try dsimp only at hSw
            go_simp
            first | (obtain ⟨z0, ⟨z1, z2, z3⟩, z4⟩ := hSw; go_simp) | skip
            try with_reducible rfl
          try simp only [Act.put, List.getElem_toArray, List.getElem_cons_succ, List.getElem_cons_zero, List.setIfInBounds_toArray, List.set_cons_zero, List.set_cons_succ]
          refine AnyBut.done (by kernel_rfl) ?_
          clear qt q10'
          go_upto_region 13 with fail
          clear q10
          have HK6d : Hid (Kept (fun _ => False) w5 w6.drew) := Lib.hid (HK6.out.trans (Kept.refl _ _).drew)
          have HS13 : Hid ((fun w' => w'.cell? ⟨g8, 5, none⟩ = some (.int .i64 xs) ∧ w'.cell? ⟨gi, oi + 5, none⟩ = some (.int .i64 xs)) w6.drew) := Lib.hid ⟨cell_rowZ 5 _ (HK6d.out.same HB5.out (fun x => x)) (HCC.out.2.1.trans (by rw [HSV.out])), HI0.out _ (HK5.out.trans HK6d.out)⟩
          have qx : (xs != xs) = false := by simp
          refine AnyBut.start (S := fun w' => w'.cell? ⟨g8, 5, none⟩ = some (.int .i64 xs) ∧ w'.cell? ⟨gi, oi + 5, none⟩ = some (.int .i64 xs)) (k := 7) (by kernel_rfl) ?_
          refine AnyBut.takeS (i := 0) (v := ?v26) rfl (by kernel_rfl) (Nat.le_of_eq (by kernel_rfl)) (by kernel_rfl) (by kernel_rfl) (fun _ _ _ h => h) (HS13.out) (Or.inl ⟨by kernel_rfl, ?hy26⟩) ?r26
          case hy26 =>
            intro w hSw
            try dsimp only at hSw
            go_simp
            first | (obtain ⟨z0, z1⟩ := hSw; go_simp) | skip
            try with_reducible rfl
          try simp only [Act.put, List.getElem_toArray, List.getElem_cons_zero, List.setIfInBounds_toArray, List.set_cons_zero, List.set_cons_succ]
          refine AnyBut.takeS (i := 1) (v := ?v27) rfl (by kernel_rfl) (Nat.le_of_eq (by kernel_rfl)) (by kernel_rfl) (by kernel_rfl) (fun _ _ _ h => h) (HS13.out) (Or.inl ⟨by kernel_rfl, ?hy27⟩) ?r27
          case hy27 =>
            intro w hSw
            try dsimp only at hSw
            go_simp
            first | (obtain ⟨z0, z1⟩ := hSw; go_simp) | skip
            try with_reducible rfl
          try simp only [Act.put, List.getElem_toArray, List.getElem_cons_succ, List.getElem_cons_zero, List.setIfInBounds_toArray, List.set_cons_zero, List.set_cons_succ]
          refine AnyBut.takeS (i := 2) (v := ?v28) rfl (by kernel_rfl) (Nat.le_of_eq (by kernel_rfl)) (by kernel_rfl) (by kernel_rfl) (fun _ _ _ h => h) (HS13.out) (Or.inl ⟨by kernel_rfl, ?hy28⟩) ?r28
          case hy28 =>
            intro w hSw
            try dsimp only at hSw
            go_simp
            first | (obtain ⟨z0, z1⟩ := hSw; go_simp) | skip
            try with_reducible rfl
          try simp only [Act.put, List.getElem_toArray, List.getElem_cons_succ, List.getElem_cons_zero, List.setIfInBounds_toArray, List.set_cons_zero, List.set_cons_succ]
          refine AnyBut.takeS (i := 3) (v := ?v29) rfl (by kernel_rfl) (Nat.le_of_eq (by kernel_rfl)) (by kernel_rfl) (by kernel_rfl) (fun _ _ _ h => h) (HS13.out) (Or.inl ⟨by kernel_rfl, ?hy29⟩) ?r29
          case hy29 =>
            intro w hSw
            try dsimp only at hSw
            go_simp
            first | (obtain ⟨z0, z1⟩ := hSw; go_simp) | skip
            try with_reducible rfl
          try simp only [Act.put, List.getElem_toArray, List.getElem_cons_succ, List.getElem_cons_zero, List.setIfInBounds_toArray, List.set_cons_zero, List.set_cons_succ]
          refine AnyBut.takeS (i := 4) (v := ?v30) rfl (by kernel_rfl) (Nat.le_of_eq (by kernel_rfl)) (by kernel_rfl) (by kernel_rfl) (fun _ _ _ h => h) (HS13.out) (Or.inl ⟨by kernel_rfl, ?hy30⟩) ?r30
          case hy30 =>
            intro w hSw
            try dsimp only at hSw
            go_simp
            first | (obtain ⟨z0, z1⟩ := hSw; go_simp) | skip
            try with_reducible rfl
          try simp only [Act.put, List.getElem_toArray, List.getElem_cons_succ, List.getElem_cons_zero, List.setIfInBounds_toArray, List.set_cons_zero, List.set_cons_succ]
          refine AnyBut.takeS (i := 5) (v := ?v31) rfl (by kernel_rfl) (Nat.le_of_eq (by kernel_rfl)) (by kernel_rfl) (by kernel_rfl) (fun _ _ _ h => h) (HS13.out) (Or.inl ⟨by kernel_rfl, ?hy31⟩) ?r31
          case hy31 =>
            intro w hSw
            try dsimp only at hSw
            go_simp
            first | (obtain ⟨z0, z1⟩ := hSw; go_simp) | skip
            try with_reducible rfl
          try simp only [Act.put, List.getElem_toArray, List.getElem_cons_succ, List.getElem_cons_zero, List.setIfInBounds_toArray, List.set_cons_zero, List.set_cons_succ]
          refine AnyBut.takeS (i := 6) (v := ?v32) rfl (by kernel_rfl) (Nat.le_of_eq (by kernel_rfl)) (by kernel_rfl) (by kernel_rfl) (fun _ _ _ h => h) (HS13.out) (Or.inl ⟨by kernel_rfl, ?hy32⟩) ?r32
          case hy32 =>
            intro w hSw
            try dsimp only at hSw
            go_simp
            first | (obtain ⟨z0, z1⟩ := hSw; go_simp) | skip
            try with_reducible rfl
          try simp only [Act.put, List.getElem_toArray, List.getElem_cons_succ, List.getElem_cons_zero, List.setIfInBounds_toArray, List.set_cons_zero, List.set_cons_succ]
          refine AnyBut.done (by kernel_rfl) ?_
          clear qx
          go_wp2
          go_roundg (m - (i + 1))
          case measure => have := HD.out; omega
          case rel => exact ⟨i + 1, HD.out, rfl, rfl, HK5.out.trans HK6d.out⟩
        · obtain ⟨j, hj⟩ : ∃ j, i = j + 1 := ⟨i - 1, by omega⟩
          obtain ⟨q, hq, hsome, hqs, hqt, hqo⟩ := HA.out.2 j hj
          have wj : IntKind.i64.wrap ((i : Int) - 1) = (j : Int) := by rw [IntWalk.i64_in _ ⟨by omega, by have := HM.out; omega⟩]; omega
          have hj0 : (0 : Int) ≤ (j : Int) := by omega
          have hjm : (j : Int) < (m : Int) := by omega
          obtain ⟨pt, hpt⟩ : ∃ f, f = q.1.time := ⟨_, rfl⟩
          obtain ⟨ps, hps⟩ : ∃ f, f = q.1.start := ⟨_, rfl⟩
          have HPI : Hid (∀ w, Kept (fun _ => False) w3 w → w.cell? ⟨gi, oi + j * 17 + 6, none⟩ = some (.int .i64 pt)) := Lib.hid (fun w k => by rw [hpt]; exact (HIR.out w k gi oi j q rfl hq).2)
          have HPT : Hid (∀ w, Kept (fun _ => False) w3 w → w.cell? ⟨gi, oi + j * 17 + 5, none⟩ = some (.int .i64 ps)) := Lib.hid (fun w k => by rw [hps]; exact (HIR.out w k gi oi j q rfl hq).1)
          have HPO : Hid (∀ w, Kept (fun _ => False) w3 w → w.cell? ⟨go, oo + j * 17 + 6, none⟩ = some (.int .i64 pt)) := Lib.hid (fun w k => by
            obtain ⟨r', hr1, hr2⟩ := HOR.out go oo j q rfl hq
            have := (hr2 w k).1 6 (.int .i64 r'.x.time) rfl
            rw [this, hr1, hqo, hpt])
          obtain ⟨hf1, hf2, hf3, hf4, hf5, hf6, hf7⟩ := HF.out
          have hmv := hf3 hsome
          have hgp := hf4 hsome
          have hown := hf5 hsome
          have hgo := hf6 hsome
          have hlt := hf7 hsome
          rw [hqs, ← hps] at hmv hown hgo
          rw [hqt, ← hpt] at hgp hgo hlt
          have hne1 : fl ≠ 1 := fun e => by have := hf1.1 e; rw [hsome] at this; cases this
          have q10 : ((i : Int) == 0) = false := by rw [beq_eq_false_iff_ne]; omega
          clear hi hj hq hsome hqs hqt hqo hpt hps hf1 hf2 hf3 hf4 hf5 hf6 hf7
          by_cases hc : ps < xs
          · rcases hmv.2 hc with hf0 | hf0
            · have hfl0 := hf0
              have HSV : Hid (sv = xs) := Lib.hid (hown hc)
              have q14 : decide (pt < xs) = false := decide_eq_false (fun e => by have := hgp.2 e; omega)
              have q15 : decide (ps < xs) = true := decide_eq_true hc
              have ql : decide (xs < pt) = false := decide_eq_false (by have := hown hc; omega)
              clear hmv hgp hown hgo hlt hne1 hc hf0
              go_upto_region 10 with (first | (refine wpList_load_part rfl 37 (.tmp 31) rfl go (oo + i * 17) rfl CR _ (HRR.out wr HKR.out).1 Try.underlying37 rfl HIR2.out.1 ?_) | (refine wpList_store_box rfl 37 (.tmp 9) _ rfl wr _ CR 37 rfl rfl rfl HIR2.out.1 (by rw [HIR2.out.2.1]; rfl) HIR2.out.2.2 ?_; intro w5 hb5 k5; have HB5 : Hid (w5.heap[g8]? = some (.cells CR 37 (0, 0))) := Lib.hid (by rw [HG8.out]; exact hb5); have HK5 := Lib.hid (HKR.out.trans k5); clear hb5 k5))
              rw [← HG8.out]
              obtain ⟨wD, hwd⟩ : ∃ w', w' = w5.drew := ⟨_, rfl⟩
              have qt : (tm != tm) = false := by simp
              refine AnyBut.start (S := fun w' => w'.heap[g8]? = some (.cells CR 37 (0, 0)) ∧ (w'.cell? ⟨g8, 3, none⟩ = some (.int .i64 2) ∧ w'.cell? ⟨g8, 6, none⟩ = some (.int .i64 tm) ∧ w'.cell? ⟨g8, 16, none⟩ = some (.int .i64 2)) ∧ w'.cell? ⟨gi, oi + i * 17 + 6, none⟩ = some (.int .i64 tm)) (k := 26) (by kernel_rfl) ?_
              rw [← hwd]
              have HKD : Hid (Kept (fun _ => False) w5 wD) := Lib.hid (by rw [hwd]; exact (Kept.refl _ _).drew)
              have HSB : Hid (∀ w', Kept (fun _ => False) w5 w' → (fun w' => w'.heap[g8]? = some (.cells CR 37 (0, 0)) ∧ (w'.cell? ⟨g8, 3, none⟩ = some (.int .i64 2) ∧ w'.cell? ⟨g8, 6, none⟩ = some (.int .i64 tm) ∧ w'.cell? ⟨g8, 16, none⟩ = some (.int .i64 2)) ∧ w'.cell? ⟨gi, oi + i * 17 + 6, none⟩ = some (.int .i64 tm)) w') := Lib.hid (fun w' k => ⟨k.same HB5.out (fun x => x), ⟨cell_rowZ 3 _ (k.same HB5.out (fun x => x)) HCC.out.1, cell_rowZ 6 _ (k.same HB5.out (fun x => x)) HCC.out.2.2.1, cell_rowZ 16 _ (k.same HB5.out (fun x => x)) (HCC.out.2.2.2.trans (by rw [hfl0]))⟩, (HIW.out w' (HK5.out.trans k)).2⟩)
              have HS0 := Lib.hid (HSB.out wD HKD.out)
              clear hwd hfl0
              refine AnyBut.takeS (i := 0) (v := ?v127) rfl (by kernel_rfl) (Nat.le_of_eq (by kernel_rfl)) (by kernel_rfl) (by kernel_rfl) (fun _ _ _ h => h) (HS0.out) (Or.inl ⟨by kernel_rfl, ?hy127⟩) ?r127
              case hy127 =>
                intro w hSw
                try dsimp only at hSw
                refine exec_load_row 37 (.tmp 9) ?_ g8 ?_ 37 _ (0, 0) _ hSw.1 Try.underlying37 rfl HIR2.out.1
                · rfl
                · rfl
              try simp only [Act.put, List.getElem_toArray, List.getElem_cons_zero, List.setIfInBounds_toArray, List.set_cons_zero, List.set_cons_succ]
              refine AnyBut.one (i := 1) (by kernel_rfl) rfl (fun K hK => ?_)
              go_simp
              go_wp2_with fail
              refine (HCK.out wD (HK5.out.trans HKD.out)).mono ?_
              rintro e w6 ⟨rfl, k6⟩
              have HS6 := Lib.hid (HSB.out w6 (HKD.out.trans k6))
              have HK6 := Lib.hid (HKD.out.trans k6)
              clear k6
              go_wp2
              refine hK.out _ _ (HS6.out) ?_
              clear hK K
              try simp only [Act.put, List.getElem_toArray, List.getElem_cons_succ, List.getElem_cons_zero, List.setIfInBounds_toArray, List.set_cons_zero, List.set_cons_succ]
              refine AnyBut.takeS (i := 2) (v := ?v128) rfl (by kernel_rfl) (Nat.le_of_eq (by kernel_rfl)) (by kernel_rfl) (by kernel_rfl) (fun _ _ _ h => h) (HS6.out) (Or.inl ⟨by kernel_rfl, ?hy128⟩) ?r128
              case hy128 =>
                intro w hSw
                try dsimp only at hSw
                go_simp
                first | (obtain ⟨z0, ⟨z1, z2, z3⟩, z4⟩ := hSw; go_simp) | skip
                try with_reducible rfl
              try simp only [Act.put, List.getElem_toArray, List.getElem_cons_succ, List.getElem_cons_zero, List.setIfInBounds_toArray, List.set_cons_zero, List.set_cons_succ]
              refine AnyBut.takeS (i := 3) (v := ?v129) rfl (by kernel_rfl) (Nat.le_of_eq (by kernel_rfl)) (by kernel_rfl) (by kernel_rfl) (fun _ _ _ h => h) (HS6.out) (Or.inl ⟨by kernel_rfl, ?hy129⟩) ?r129
              case hy129 =>
                intro w hSw
                try dsimp only at hSw
                go_simp
                first | (obtain ⟨z0, ⟨z1, z2, z3⟩, z4⟩ := hSw; go_simp) | skip
                try with_reducible rfl
              try simp only [Act.put, List.getElem_toArray, List.getElem_cons_succ, List.getElem_cons_zero, List.setIfInBounds_toArray, List.set_cons_zero, List.set_cons_succ]
              refine AnyBut.takeS (i := 4) (v := ?v130) rfl (by kernel_rfl) (Nat.le_of_eq (by kernel_rfl)) (by kernel_rfl) (by kernel_rfl) (fun _ _ _ h => h) (HS6.out) (Or.inl ⟨by kernel_rfl, ?hy130⟩) ?r130
              case hy130 =>
                intro w hSw
                try dsimp only at hSw
                go_simp
                first | (obtain ⟨z0, ⟨z1, z2, z3⟩, z4⟩ := hSw; go_simp) | skip
                try with_reducible rfl
              try simp only [Act.put, List.getElem_toArray, List.getElem_cons_succ, List.getElem_cons_zero, List.setIfInBounds_toArray, List.set_cons_zero, List.set_cons_succ]
              refine AnyBut.takeS (i := 5) (v := ?v131) rfl (by kernel_rfl) (Nat.le_of_eq (by kernel_rfl)) (by kernel_rfl) (by kernel_rfl) (fun _ _ _ h => h) (HS6.out) (Or.inl ⟨by kernel_rfl, ?hy131⟩) ?r131
              case hy131 =>
                intro w hSw
                try dsimp only at hSw
                go_simp
                first | (obtain ⟨z0, ⟨z1, z2, z3⟩, z4⟩ := hSw; go_simp) | skip
                try with_reducible rfl
              try simp only [Act.put, List.getElem_toArray, List.getElem_cons_succ, List.getElem_cons_zero, List.setIfInBounds_toArray, List.set_cons_zero, List.set_cons_succ]
              refine AnyBut.takeS (i := 6) (v := ?v132) rfl (by kernel_rfl) (Nat.le_of_eq (by kernel_rfl)) (by kernel_rfl) (by kernel_rfl) (fun _ _ _ h => h) (HS6.out) (Or.inl ⟨by kernel_rfl, ?hy132⟩) ?r132
              case hy132 =>
                intro w hSw
                try dsimp only at hSw
                go_simp
                first | (obtain ⟨z0, ⟨z1, z2, z3⟩, z4⟩ := hSw; go_simp) | skip
                try with_reducible rfl
              try simp only [Act.put, List.getElem_toArray, List.getElem_cons_succ, List.getElem_cons_zero, List.setIfInBounds_toArray, List.set_cons_zero, List.set_cons_succ]
              refine AnyBut.takeS (i := 7) (v := ?v133) rfl (by kernel_rfl) (Nat.le_of_eq (by kernel_rfl)) (by kernel_rfl) (by kernel_rfl) (fun _ _ _ h => h) (HS6.out) (Or.inl ⟨by kernel_rfl, ?hy133⟩) ?r133
              case hy133 =>
                intro w hSw
                try dsimp only at hSw
                go_simp
                first | (obtain ⟨z0, ⟨z1, z2, z3⟩, z4⟩ := hSw; go_simp) | skip
                try with_reducible rfl
              try simp only [Act.put, List.getElem_toArray, List.getElem_cons_succ, List.getElem_cons_zero, List.setIfInBounds_toArray, List.set_cons_zero, List.set_cons_succ]
              refine AnyBut.takeS (i := 8) (v := ?v134) rfl (by kernel_rfl) (Nat.le_of_eq (by kernel_rfl)) (by kernel_rfl) (by kernel_rfl) (fun _ _ _ h => h) (HS6.out) (Or.inl ⟨by kernel_rfl, ?hy134⟩) ?r134
              case hy134 =>
                intro w hSw
                try dsimp only at hSw
                go_simp
                first | (obtain ⟨z0, ⟨z1, z2, z3⟩, z4⟩ := hSw; go_simp) | skip
                try with_reducible rfl
              try simp only [Act.put, List.getElem_toArray, List.getElem_cons_succ, List.getElem_cons_zero, List.setIfInBounds_toArray, List.set_cons_zero, List.set_cons_succ]
              refine AnyBut.takeS (i := 9) (v := ?v135) rfl (by kernel_rfl) (Nat.le_of_eq (by kernel_rfl)) (by kernel_rfl) (by kernel_rfl) (fun _ _ _ h => h) (HS6.out) (Or.inl ⟨by kernel_rfl, ?hy135⟩) ?r135
              case hy135 =>
                intro w hSw
                try dsimp only at hSw
                go_simp
                first | (obtain ⟨z0, ⟨z1, z2, z3⟩, z4⟩ := hSw; go_simp) | skip
                try with_reducible rfl
              try simp only [Act.put, List.getElem_toArray, List.getElem_cons_succ, List.getElem_cons_zero, List.setIfInBounds_toArray, List.set_cons_zero, List.set_cons_succ]
              refine AnyBut.takeS (i := 10) (v := ?v136) rfl (by kernel_rfl) (Nat.le_of_eq (by kernel_rfl)) (by kernel_rfl) (by kernel_rfl) (fun _ _ _ h => h) (HS6.out) (Or.inl ⟨by kernel_rfl, ?hy136⟩) ?r136
              case hy136 =>
                intro w hSw
                try dsimp only at hSw
                go_simp
                first | (obtain ⟨z0, ⟨z1, z2, z3⟩, z4⟩ := hSw; go_simp) | skip
                try with_reducible rfl
              try simp only [Act.put, List.getElem_toArray, List.getElem_cons_succ, List.getElem_cons_zero, List.setIfInBounds_toArray, List.set_cons_zero, List.set_cons_succ]
              refine AnyBut.takeS (i := 11) (v := ?v137) rfl (by kernel_rfl) (Nat.le_of_eq (by kernel_rfl)) (by kernel_rfl) (by kernel_rfl) (fun _ _ _ h => h) (HS6.out) (Or.inl ⟨by kernel_rfl, ?hy137⟩) ?r137
              case hy137 =>
                intro w hSw
                try dsimp only at hSw
                go_simp
                first | (obtain ⟨z0, ⟨z1, z2, z3⟩, z4⟩ := hSw; go_simp) | skip
                try with_reducible rfl
              try simp only [Act.put, List.getElem_toArray, List.getElem_cons_succ, List.getElem_cons_zero, List.setIfInBounds_toArray, List.set_cons_zero, List.set_cons_succ]
              refine AnyBut.takeS (i := 12) (v := ?v138) rfl (by kernel_rfl) (Nat.le_of_eq (by kernel_rfl)) (by kernel_rfl) (by kernel_rfl) (fun _ _ _ h => h) (HS6.out) (Or.inl ⟨by kernel_rfl, ?hy138⟩) ?r138
              case hy138 =>
                intro w hSw
                try dsimp only at hSw
                go_simp
                first | (obtain ⟨z0, ⟨z1, z2, z3⟩, z4⟩ := hSw; go_simp) | skip
                try with_reducible rfl
              try simp only [Act.put, List.getElem_toArray, List.getElem_cons_succ, List.getElem_cons_zero, List.setIfInBounds_toArray, List.set_cons_zero, List.set_cons_succ]
              refine AnyBut.takeS (i := 13) (v := ?v139) rfl (by kernel_rfl) (Nat.le_of_eq (by kernel_rfl)) (by kernel_rfl) (by kernel_rfl) (fun _ _ _ h => h) (HS6.out) (Or.inl ⟨by kernel_rfl, ?hy139⟩) ?r139
              case hy139 =>
                intro w hSw
                try dsimp only at hSw
                go_simp
                first | (obtain ⟨z0, ⟨z1, z2, z3⟩, z4⟩ := hSw; go_simp) | skip
                try with_reducible rfl
              try simp only [Act.put, List.getElem_toArray, List.getElem_cons_succ, List.getElem_cons_zero, List.setIfInBounds_toArray, List.set_cons_zero, List.set_cons_succ]
              refine AnyBut.takeS (i := 14) (v := ?v140) rfl (by kernel_rfl) (Nat.le_of_eq (by kernel_rfl)) (by kernel_rfl) (by kernel_rfl) (fun _ _ _ h => h) (HS6.out) (Or.inl ⟨by kernel_rfl, ?hy140⟩) ?r140
              case hy140 =>
                intro w hSw
                try dsimp only at hSw
                go_simp
                first | (obtain ⟨z0, ⟨z1, z2, z3⟩, z4⟩ := hSw; go_simp) | skip
                try with_reducible rfl
              try simp only [Act.put, List.getElem_toArray, List.getElem_cons_succ, List.getElem_cons_zero, List.setIfInBounds_toArray, List.set_cons_zero, List.set_cons_succ]
              refine AnyBut.takeS (i := 15) (v := ?v141) rfl (by kernel_rfl) (Nat.le_of_eq (by kernel_rfl)) (by kernel_rfl) (by kernel_rfl) (fun _ _ _ h => h) (HS6.out) (Or.inl ⟨by kernel_rfl, ?hy141⟩) ?r141
              case hy141 =>
                intro w hSw
                try dsimp only at hSw
                go_simp
                first | (obtain ⟨z0, ⟨z1, z2, z3⟩, z4⟩ := hSw; go_simp) | skip
                try with_reducible rfl
              try simp only [Act.put, List.getElem_toArray, List.getElem_cons_succ, List.getElem_cons_zero, List.setIfInBounds_toArray, List.set_cons_zero, List.set_cons_succ]
              refine AnyBut.takeS (i := 16) (v := ?v142) rfl (by kernel_rfl) (Nat.le_of_eq (by kernel_rfl)) (by kernel_rfl) (by kernel_rfl) (fun _ _ _ h => h) (HS6.out) (Or.inl ⟨by kernel_rfl, ?hy142⟩) ?r142
              case hy142 =>
                intro w hSw
                try dsimp only at hSw
                go_simp
                first | (obtain ⟨z0, ⟨z1, z2, z3⟩, z4⟩ := hSw; go_simp) | skip
                try with_reducible rfl
              try simp only [Act.put, List.getElem_toArray, List.getElem_cons_succ, List.getElem_cons_zero, List.setIfInBounds_toArray, List.set_cons_zero, List.set_cons_succ]
              refine AnyBut.takeS (i := 17) (v := ?v143) rfl (by kernel_rfl) (Nat.le_of_eq (by kernel_rfl)) (by kernel_rfl) (by kernel_rfl) (fun _ _ _ h => h) (HS6.out) (Or.inl ⟨by kernel_rfl, ?hy143⟩) ?r143
              case hy143 =>
                intro w hSw
                try dsimp only at hSw
                go_simp
                first | (obtain ⟨z0, ⟨z1, z2, z3⟩, z4⟩ := hSw; go_simp) | skip
                try with_reducible rfl
              try simp only [Act.put, List.getElem_toArray, List.getElem_cons_succ, List.getElem_cons_zero, List.setIfInBounds_toArray, List.set_cons_zero, List.set_cons_succ]
              refine AnyBut.takeS (i := 18) (v := ?v144) rfl (by kernel_rfl) (Nat.le_of_eq (by kernel_rfl)) (by kernel_rfl) (by kernel_rfl) (fun _ _ _ h => h) (HS6.out) (Or.inl ⟨by kernel_rfl, ?hy144⟩) ?r144
              case hy144 =>
                intro w hSw
                try dsimp only at hSw
                go_simp
                first | (obtain ⟨z0, ⟨z1, z2, z3⟩, z4⟩ := hSw; go_simp) | skip
                try with_reducible rfl
              try simp only [Act.put, List.getElem_toArray, List.getElem_cons_succ, List.getElem_cons_zero, List.setIfInBounds_toArray, List.set_cons_zero, List.set_cons_succ]
              refine AnyBut.takeS (i := 19) (v := ?v145) rfl (by kernel_rfl) (Nat.le_of_eq (by kernel_rfl)) (by kernel_rfl) (by kernel_rfl) (fun _ _ _ h => h) (HS6.out) (Or.inl ⟨by kernel_rfl, ?hy145⟩) ?r145
              case hy145 =>
                intro w hSw
                try dsimp only at hSw
                go_simp
                first | (obtain ⟨z0, ⟨z1, z2, z3⟩, z4⟩ := hSw; go_simp) | skip
                try with_reducible rfl
              try simp only [Act.put, List.getElem_toArray, List.getElem_cons_succ, List.getElem_cons_zero, List.setIfInBounds_toArray, List.set_cons_zero, List.set_cons_succ]
              refine AnyBut.takeS (i := 20) (v := ?v146) rfl (by kernel_rfl) (Nat.le_of_eq (by kernel_rfl)) (by kernel_rfl) (by kernel_rfl) (fun _ _ _ h => h) (HS6.out) (Or.inl ⟨by kernel_rfl, ?hy146⟩) ?r146
              case hy146 =>
                intro w hSw
                try dsimp only at hSw
                go_simp
                first | (obtain ⟨z0, ⟨z1, z2, z3⟩, z4⟩ := hSw; go_simp) | skip
                try with_reducible rfl
              try simp only [Act.put, List.getElem_toArray, List.getElem_cons_succ, List.getElem_cons_zero, List.setIfInBounds_toArray, List.set_cons_zero, List.set_cons_succ]
              refine AnyBut.takeS (i := 21) (v := ?v147) rfl (by kernel_rfl) (Nat.le_of_eq (by kernel_rfl)) (by kernel_rfl) (by kernel_rfl) (fun _ _ _ h => h) (HS6.out) (Or.inl ⟨by kernel_rfl, ?hy147⟩) ?r147
              case hy147 =>
                intro w hSw
                try dsimp only at hSw
                go_simp
                first | (obtain ⟨z0, ⟨z1, z2, z3⟩, z4⟩ := hSw; go_simp) | skip
                try with_reducible rfl
              try simp only [Act.put, List.getElem_toArray, List.getElem_cons_succ, List.getElem_cons_zero, List.setIfInBounds_toArray, List.set_cons_zero, List.set_cons_succ]
              refine AnyBut.takeS (i := 22) (v := ?v148) rfl (by kernel_rfl) (Nat.le_of_eq (by kernel_rfl)) (by kernel_rfl) (by kernel_rfl) (fun _ _ _ h => h) (HS6.out) (Or.inl ⟨by kernel_rfl, ?hy148⟩) ?r148
              case hy148 =>
                intro w hSw
                try dsimp only at hSw
                go_simp
                first | (obtain ⟨z0, ⟨z1, z2, z3⟩, z4⟩ := hSw; go_simp) | skip
                try with_reducible rfl
              try simp only [Act.put, List.getElem_toArray, List.getElem_cons_succ, List.getElem_cons_zero, List.setIfInBounds_toArray, List.set_cons_zero, List.set_cons_succ]
              refine AnyBut.takeS (i := 23) (v := ?v149) rfl (by kernel_rfl) (Nat.le_of_eq (by kernel_rfl)) (by kernel_rfl) (by kernel_rfl) (fun _ _ _ h => h) (HS6.out) (Or.inl ⟨by kernel_rfl, ?hy149⟩) ?r149
              case hy149 =>
                intro w hSw
                try dsimp only at hSw
                go_simp
                first | (obtain ⟨z0, ⟨z1, z2, z3⟩, z4⟩ := hSw; go_simp) | skip
                try with_reducible rfl
              try simp only [Act.put, List.getElem_toArray, List.getElem_cons_succ, List.getElem_cons_zero, List.setIfInBounds_toArray, List.set_cons_zero, List.set_cons_succ]
              refine AnyBut.takeS (i := 24) (v := ?v150) rfl (by kernel_rfl) (Nat.le_of_eq (by kernel_rfl)) (by kernel_rfl) (by kernel_rfl) (fun _ _ _ h => h) (HS6.out) (Or.inl ⟨by kernel_rfl, ?hy150⟩) ?r150
              case hy150 =>
                intro w hSw
                try dsimp only at hSw
                go_simp
                first | (obtain ⟨z0, ⟨z1, z2, z3⟩, z4⟩ := hSw; go_simp) | skip
                try with_reducible rfl
              try simp only [Act.put, List.getElem_toArray, List.getElem_cons_succ, List.getElem_cons_zero, List.setIfInBounds_toArray, List.set_cons_zero, List.set_cons_succ]
              refine AnyBut.takeS (i := 25) (v := ?v151) rfl (by kernel_rfl) (Nat.le_of_eq (by kernel_rfl)) (by kernel_rfl) (by kernel_rfl) (fun _ _ _ h => h) (HS6.out) (Or.inl ⟨by kernel_rfl, ?hy151⟩) ?r151
              case hy151 =>
                intro w hSw
                try dsimp only at hSw
                go_simp
                first | (obtain ⟨z0, ⟨z1, z2, z3⟩, z4⟩ := hSw; go_simp) | skip
                try with_reducible rfl
              try simp only [Act.put, List.getElem_toArray, List.getElem_cons_succ, List.getElem_cons_zero, List.setIfInBounds_toArray, List.set_cons_zero, List.set_cons_succ]
              refine AnyBut.done (by kernel_rfl) ?_
              clear qt
              have c16 := (HSB.out _ HK6.out).2.1.2.2
              go_upto_region 16 with fail
              clear c16 q10
              have HK6d : Hid (Kept (fun _ => False) w5 w6.drew) := Lib.hid (HK6.out.trans (Kept.refl _ _).drew)
              have HS16 : Hid ((fun w' => w'.cell? ⟨g8, 5, none⟩ = some (.int .i64 xs) ∧ w'.cell? ⟨gi, oi + i * 17 + 5, none⟩ = some (.int .i64 xs) ∧ w'.cell? ⟨go, oo + j * 17 + 6, none⟩ = some (.int .i64 pt)) w6.drew) := Lib.hid ⟨cell_rowZ 5 _ (HK6d.out.same HB5.out (fun x => x)) (HCC.out.2.1.trans (by rw [HSV.out])), (HIW.out _ (HK5.out.trans HK6d.out)).1, HPO.out _ (HK5.out.trans HK6d.out)⟩
              have qx : (xs != xs) = false := by simp
              refine AnyBut.start (S := fun w' => w'.cell? ⟨g8, 5, none⟩ = some (.int .i64 xs) ∧ w'.cell? ⟨gi, oi + i * 17 + 5, none⟩ = some (.int .i64 xs) ∧ w'.cell? ⟨go, oo + j * 17 + 6, none⟩ = some (.int .i64 pt)) (k := 37) (by kernel_rfl) ?_
              refine AnyBut.takeS (i := 0) (v := ?v152) rfl (by kernel_rfl) (Nat.le_of_eq (by kernel_rfl)) (by kernel_rfl) (by kernel_rfl) (fun _ _ _ h => h) (HS16.out) (Or.inl ⟨by kernel_rfl, ?hy152⟩) ?r152
              case hy152 =>
                intro w hSw
                try dsimp only at hSw
                go_simp
                first | (obtain ⟨z0, z1, z2⟩ := hSw; go_simp) | skip
                try with_reducible rfl
              try simp only [Act.put, List.getElem_toArray, List.getElem_cons_zero, List.setIfInBounds_toArray, List.set_cons_zero, List.set_cons_succ]
              refine AnyBut.takeS (i := 1) (v := ?v153) rfl (by kernel_rfl) (Nat.le_of_eq (by kernel_rfl)) (by kernel_rfl) (by kernel_rfl) (fun _ _ _ h => h) (HS16.out) (Or.inl ⟨by kernel_rfl, ?hy153⟩) ?r153
              case hy153 =>
                intro w hSw
                try dsimp only at hSw
                go_simp
                first | (obtain ⟨z0, z1, z2⟩ := hSw; go_simp) | skip
                try with_reducible rfl
              try simp only [Act.put, List.getElem_toArray, List.getElem_cons_succ, List.getElem_cons_zero, List.setIfInBounds_toArray, List.set_cons_zero, List.set_cons_succ]
              refine AnyBut.takeS (i := 2) (v := ?v154) rfl (by kernel_rfl) (Nat.le_of_eq (by kernel_rfl)) (by kernel_rfl) (by kernel_rfl) (fun _ _ _ h => h) (HS16.out) (Or.inl ⟨by kernel_rfl, ?hy154⟩) ?r154
              case hy154 =>
                intro w hSw
                try dsimp only at hSw
                go_simp
                first | (obtain ⟨z0, z1, z2⟩ := hSw; go_simp) | skip
                try with_reducible rfl
              try simp only [Act.put, List.getElem_toArray, List.getElem_cons_succ, List.getElem_cons_zero, List.setIfInBounds_toArray, List.set_cons_zero, List.set_cons_succ]
              refine AnyBut.takeS (i := 3) (v := undef) rfl (by kernel_rfl) (Nat.le_of_eq (by kernel_rfl)) (by kernel_rfl) (by kernel_rfl) (fun _ _ _ h => h) (HS16.out) (Or.inr ⟨by kernel_rfl, rfl⟩) ?r155
              try simp only [Act.put, List.getElem_toArray, List.getElem_cons_succ, List.getElem_cons_zero, List.setIfInBounds_toArray, List.set_cons_zero, List.set_cons_succ]
              refine AnyBut.takeS (i := 4) (v := undef) rfl (by kernel_rfl) (Nat.le_of_eq (by kernel_rfl)) (by kernel_rfl) (by kernel_rfl) (fun _ _ _ h => h) (HS16.out) (Or.inr ⟨by kernel_rfl, rfl⟩) ?r156
              try simp only [Act.put, List.getElem_toArray, List.getElem_cons_succ, List.getElem_cons_zero, List.setIfInBounds_toArray, List.set_cons_zero, List.set_cons_succ]
              refine AnyBut.takeS (i := 5) (v := undef) rfl (by kernel_rfl) (Nat.le_of_eq (by kernel_rfl)) (by kernel_rfl) (by kernel_rfl) (fun _ _ _ h => h) (HS16.out) (Or.inr ⟨by kernel_rfl, rfl⟩) ?r157
              try simp only [Act.put, List.getElem_toArray, List.getElem_cons_succ, List.getElem_cons_zero, List.setIfInBounds_toArray, List.set_cons_zero, List.set_cons_succ]
              refine AnyBut.takeS (i := 6) (v := undef) rfl (by kernel_rfl) (Nat.le_of_eq (by kernel_rfl)) (by kernel_rfl) (by kernel_rfl) (fun _ _ _ h => h) (HS16.out) (Or.inr ⟨by kernel_rfl, rfl⟩) ?r158
              try simp only [Act.put, List.getElem_toArray, List.getElem_cons_succ, List.getElem_cons_zero, List.setIfInBounds_toArray, List.set_cons_zero, List.set_cons_succ]
              refine AnyBut.takeS (i := 7) (v := undef) rfl (by kernel_rfl) (Nat.le_of_eq (by kernel_rfl)) (by kernel_rfl) (by kernel_rfl) (fun _ _ _ h => h) (HS16.out) (Or.inr ⟨by kernel_rfl, rfl⟩) ?r159
              try simp only [Act.put, List.getElem_toArray, List.getElem_cons_succ, List.getElem_cons_zero, List.setIfInBounds_toArray, List.set_cons_zero, List.set_cons_succ]
              refine AnyBut.takeS (i := 8) (v := undef) rfl (by kernel_rfl) (Nat.le_of_eq (by kernel_rfl)) (by kernel_rfl) (by kernel_rfl) (fun _ _ _ h => h) (HS16.out) (Or.inr ⟨by kernel_rfl, rfl⟩) ?r160
              try simp only [Act.put, List.getElem_toArray, List.getElem_cons_succ, List.getElem_cons_zero, List.setIfInBounds_toArray, List.set_cons_zero, List.set_cons_succ]
              refine AnyBut.takeS (i := 9) (v := undef) rfl (by kernel_rfl) (Nat.le_of_eq (by kernel_rfl)) (by kernel_rfl) (by kernel_rfl) (fun _ _ _ h => h) (HS16.out) (Or.inr ⟨by kernel_rfl, rfl⟩) ?r161
              try simp only [Act.put, List.getElem_toArray, List.getElem_cons_succ, List.getElem_cons_zero, List.setIfInBounds_toArray, List.set_cons_zero, List.set_cons_succ]
              refine AnyBut.takeS (i := 10) (v := undef) rfl (by kernel_rfl) (Nat.le_of_eq (by kernel_rfl)) (by kernel_rfl) (by kernel_rfl) (fun _ _ _ h => h) (HS16.out) (Or.inr ⟨by kernel_rfl, rfl⟩) ?r162
              try simp only [Act.put, List.getElem_toArray, List.getElem_cons_succ, List.getElem_cons_zero, List.setIfInBounds_toArray, List.set_cons_zero, List.set_cons_succ]
              refine AnyBut.takeS (i := 11) (v := undef) rfl (by kernel_rfl) (Nat.le_of_eq (by kernel_rfl)) (by kernel_rfl) (by kernel_rfl) (fun _ _ _ h => h) (HS16.out) (Or.inr ⟨by kernel_rfl, rfl⟩) ?r163
              try simp only [Act.put, List.getElem_toArray, List.getElem_cons_succ, List.getElem_cons_zero, List.setIfInBounds_toArray, List.set_cons_zero, List.set_cons_succ]
              refine AnyBut.takeS (i := 12) (v := ?v164) rfl (by kernel_rfl) (Nat.le_of_eq (by kernel_rfl)) (by kernel_rfl) (by kernel_rfl) (fun _ _ _ h => h) (HS16.out) (Or.inl ⟨by kernel_rfl, ?hy164⟩) ?r164
              case hy164 =>
                intro w hSw
                try dsimp only at hSw
                go_simp
                first | (obtain ⟨z0, z1, z2⟩ := hSw; go_simp) | skip
                try with_reducible rfl
              try simp only [Act.put, List.getElem_toArray, List.getElem_cons_succ, List.getElem_cons_zero, List.setIfInBounds_toArray, List.set_cons_zero, List.set_cons_succ]
              refine AnyBut.takeS (i := 13) (v := ?v165) rfl (by kernel_rfl) (Nat.le_of_eq (by kernel_rfl)) (by kernel_rfl) (by kernel_rfl) (fun _ _ _ h => h) (HS16.out) (Or.inl ⟨by kernel_rfl, ?hy165⟩) ?r165
              case hy165 =>
                intro w hSw
                try dsimp only at hSw
                go_simp
                first | (obtain ⟨z0, z1, z2⟩ := hSw; go_simp) | skip
                try with_reducible rfl
              try simp only [Act.put, List.getElem_toArray, List.getElem_cons_succ, List.getElem_cons_zero, List.setIfInBounds_toArray, List.set_cons_zero, List.set_cons_succ]
              refine AnyBut.takeS (i := 14) (v := ?v166) rfl (by kernel_rfl) (Nat.le_of_eq (by kernel_rfl)) (by kernel_rfl) (by kernel_rfl) (fun _ _ _ h => h) (HS16.out) (Or.inl ⟨by kernel_rfl, ?hy166⟩) ?r166
              case hy166 =>
                intro w hSw
                try dsimp only at hSw
                go_simp
                first | (obtain ⟨z0, z1, z2⟩ := hSw; go_simp) | skip
                try with_reducible rfl
              try simp only [Act.put, List.getElem_toArray, List.getElem_cons_succ, List.getElem_cons_zero, List.setIfInBounds_toArray, List.set_cons_zero, List.set_cons_succ]
              refine AnyBut.takeS (i := 15) (v := ?v167) rfl (by kernel_rfl) (Nat.le_of_eq (by kernel_rfl)) (by kernel_rfl) (by kernel_rfl) (fun _ _ _ h => h) (HS16.out) (Or.inl ⟨by kernel_rfl, ?hy167⟩) ?r167
              case hy167 =>
                intro w hSw
                try dsimp only at hSw
                go_simp
                first | (obtain ⟨z0, z1, z2⟩ := hSw; go_simp) | skip
                try with_reducible rfl
              try simp only [Act.put, List.getElem_toArray, List.getElem_cons_succ, List.getElem_cons_zero, List.setIfInBounds_toArray, List.set_cons_zero, List.set_cons_succ]
              refine AnyBut.takeS (i := 16) (v := ?v168) rfl (by kernel_rfl) (Nat.le_of_eq (by kernel_rfl)) (by kernel_rfl) (by kernel_rfl) (fun _ _ _ h => h) (HS16.out) (Or.inl ⟨by kernel_rfl, ?hy168⟩) ?r168
              case hy168 =>
                intro w hSw
                try dsimp only at hSw
                go_simp
                first | (obtain ⟨z0, z1, z2⟩ := hSw; go_simp) | skip
                try with_reducible rfl
              try simp only [Act.put, List.getElem_toArray, List.getElem_cons_succ, List.getElem_cons_zero, List.setIfInBounds_toArray, List.set_cons_zero, List.set_cons_succ]
              refine AnyBut.takeS (i := 17) (v := ?v169) rfl (by kernel_rfl) (Nat.le_of_eq (by kernel_rfl)) (by kernel_rfl) (by kernel_rfl) (fun _ _ _ h => h) (HS16.out) (Or.inl ⟨by kernel_rfl, ?hy169⟩) ?r169
              case hy169 =>
                intro w hSw
                try dsimp only at hSw
                go_simp
                first | (obtain ⟨z0, z1, z2⟩ := hSw; go_simp) | skip
                try with_reducible rfl
              try simp only [Act.put, List.getElem_toArray, List.getElem_cons_succ, List.getElem_cons_zero, List.setIfInBounds_toArray, List.set_cons_zero, List.set_cons_succ]
              refine AnyBut.takeS (i := 18) (v := ?v170) rfl (by kernel_rfl) (Nat.le_of_eq (by kernel_rfl)) (by kernel_rfl) (by kernel_rfl) (fun _ _ _ h => h) (HS16.out) (Or.inl ⟨by kernel_rfl, ?hy170⟩) ?r170
              case hy170 =>
                intro w hSw
                try dsimp only at hSw
                go_simp
                first | (obtain ⟨z0, z1, z2⟩ := hSw; go_simp) | skip
                try with_reducible rfl
              try simp only [Act.put, List.getElem_toArray, List.getElem_cons_succ, List.getElem_cons_zero, List.setIfInBounds_toArray, List.set_cons_zero, List.set_cons_succ]
              refine AnyBut.takeS (i := 19) (v := ?v171) rfl (by kernel_rfl) (Nat.le_of_eq (by kernel_rfl)) (by kernel_rfl) (by kernel_rfl) (fun _ _ _ h => h) (HS16.out) (Or.inl ⟨by kernel_rfl, ?hy171⟩) ?r171
              case hy171 =>
                intro w hSw
                try dsimp only at hSw
                go_simp
                first | (obtain ⟨z0, z1, z2⟩ := hSw; go_simp) | skip
                try with_reducible rfl
              try simp only [Act.put, List.getElem_toArray, List.getElem_cons_succ, List.getElem_cons_zero, List.setIfInBounds_toArray, List.set_cons_zero, List.set_cons_succ]
              refine AnyBut.takeS (i := 20) (v := ?v172) rfl (by kernel_rfl) (Nat.le_of_eq (by kernel_rfl)) (by kernel_rfl) (by kernel_rfl) (fun _ _ _ h => h) (HS16.out) (Or.inl ⟨by kernel_rfl, ?hy172⟩) ?r172
              case hy172 =>
                intro w hSw
                try dsimp only at hSw
                go_simp
                first | (obtain ⟨z0, z1, z2⟩ := hSw; go_simp) | skip
                try with_reducible rfl
              try simp only [Act.put, List.getElem_toArray, List.getElem_cons_succ, List.getElem_cons_zero, List.setIfInBounds_toArray, List.set_cons_zero, List.set_cons_succ]
              refine AnyBut.takeS (i := 21) (v := ?v173) rfl (by kernel_rfl) (Nat.le_of_eq (by kernel_rfl)) (by kernel_rfl) (by kernel_rfl) (fun _ _ _ h => h) (HS16.out) (Or.inl ⟨by kernel_rfl, ?hy173⟩) ?r173
              case hy173 =>
                intro w hSw
                try dsimp only at hSw
                go_simp
                first | (obtain ⟨z0, z1, z2⟩ := hSw; go_simp) | skip
                try with_reducible rfl
              try simp only [Act.put, List.getElem_toArray, List.getElem_cons_succ, List.getElem_cons_zero, List.setIfInBounds_toArray, List.set_cons_zero, List.set_cons_succ]
              refine AnyBut.takeS (i := 22) (v := ?v174) rfl (by kernel_rfl) (Nat.le_of_eq (by kernel_rfl)) (by kernel_rfl) (by kernel_rfl) (fun _ _ _ h => h) (HS16.out) (Or.inl ⟨by kernel_rfl, ?hy174⟩) ?r174
              case hy174 =>
                intro w hSw
                try dsimp only at hSw
                go_simp
                first | (obtain ⟨z0, z1, z2⟩ := hSw; go_simp) | skip
                try with_reducible rfl
              try simp only [Act.put, List.getElem_toArray, List.getElem_cons_succ, List.getElem_cons_zero, List.setIfInBounds_toArray, List.set_cons_zero, List.set_cons_succ]
              refine AnyBut.takeS (i := 23) (v := ?v175) rfl (by kernel_rfl) (Nat.le_of_eq (by kernel_rfl)) (by kernel_rfl) (by kernel_rfl) (fun _ _ _ h => h) (HS16.out) (Or.inl ⟨by kernel_rfl, ?hy175⟩) ?r175
              case hy175 =>
                intro w hSw
                try dsimp only at hSw
                go_simp
                first | (obtain ⟨z0, z1, z2⟩ := hSw; go_simp) | skip
                try with_reducible rfl
              try simp only [Act.put, List.getElem_toArray, List.getElem_cons_succ, List.getElem_cons_zero, List.setIfInBounds_toArray, List.set_cons_zero, List.set_cons_succ]
              refine AnyBut.takeS (i := 24) (v := ?v176) rfl (by kernel_rfl) (Nat.le_of_eq (by kernel_rfl)) (by kernel_rfl) (by kernel_rfl) (fun _ _ _ h => h) (HS16.out) (Or.inl ⟨by kernel_rfl, ?hy176⟩) ?r176
              case hy176 =>
                intro w hSw
                try dsimp only at hSw
                go_simp
                first | (obtain ⟨z0, z1, z2⟩ := hSw; go_simp) | skip
                try with_reducible rfl
              try simp only [Act.put, List.getElem_toArray, List.getElem_cons_succ, List.getElem_cons_zero, List.setIfInBounds_toArray, List.set_cons_zero, List.set_cons_succ]
              refine AnyBut.takeS (i := 25) (v := ?v177) rfl (by kernel_rfl) (Nat.le_of_eq (by kernel_rfl)) (by kernel_rfl) (by kernel_rfl) (fun _ _ _ h => h) (HS16.out) (Or.inl ⟨by kernel_rfl, ?hy177⟩) ?r177
              case hy177 =>
                intro w hSw
                try dsimp only at hSw
                go_simp
                first | (obtain ⟨z0, z1, z2⟩ := hSw; go_simp) | skip
                try with_reducible rfl
              try simp only [Act.put, List.getElem_toArray, List.getElem_cons_succ, List.getElem_cons_zero, List.setIfInBounds_toArray, List.set_cons_zero, List.set_cons_succ]
              refine AnyBut.takeS (i := 26) (v := ?v178) rfl (by kernel_rfl) (Nat.le_of_eq (by kernel_rfl)) (by kernel_rfl) (by kernel_rfl) (fun _ _ _ h => h) (HS16.out) (Or.inl ⟨by kernel_rfl, ?hy178⟩) ?r178
              case hy178 =>
                intro w hSw
                try dsimp only at hSw
                go_simp
                first | (obtain ⟨z0, z1, z2⟩ := hSw; go_simp) | skip
                try with_reducible rfl
              try simp only [Act.put, List.getElem_toArray, List.getElem_cons_succ, List.getElem_cons_zero, List.setIfInBounds_toArray, List.set_cons_zero, List.set_cons_succ]
              refine AnyBut.takeS (i := 27) (v := ?v179) rfl (by kernel_rfl) (Nat.le_of_eq (by kernel_rfl)) (by kernel_rfl) (by kernel_rfl) (fun _ _ _ h => h) (HS16.out) (Or.inl ⟨by kernel_rfl, ?hy179⟩) ?r179
              case hy179 =>
                intro w hSw
                try dsimp only at hSw
                go_simp
                first | (obtain ⟨z0, z1, z2⟩ := hSw; go_simp) | skip
                try with_reducible rfl
              try simp only [Act.put, List.getElem_toArray, List.getElem_cons_succ, List.getElem_cons_zero, List.setIfInBounds_toArray, List.set_cons_zero, List.set_cons_succ]
              refine AnyBut.takeS (i := 28) (v := ?v180) rfl (by kernel_rfl) (Nat.le_of_eq (by kernel_rfl)) (by kernel_rfl) (by kernel_rfl) (fun _ _ _ h => h) (HS16.out) (Or.inl ⟨by kernel_rfl, ?hy180⟩) ?r180
              case hy180 =>
                intro w hSw
                try dsimp only at hSw
                go_simp
                first | (obtain ⟨z0, z1, z2⟩ := hSw; go_simp) | skip
                try with_reducible rfl
              try simp only [Act.put, List.getElem_toArray, List.getElem_cons_succ, List.getElem_cons_zero, List.setIfInBounds_toArray, List.set_cons_zero, List.set_cons_succ]
              refine AnyBut.takeS (i := 29) (v := ?v181) rfl (by kernel_rfl) (Nat.le_of_eq (by kernel_rfl)) (by kernel_rfl) (by kernel_rfl) (fun _ _ _ h => h) (HS16.out) (Or.inl ⟨by kernel_rfl, ?hy181⟩) ?r181
              case hy181 =>
                intro w hSw
                try dsimp only at hSw
                go_simp
                first | (obtain ⟨z0, z1, z2⟩ := hSw; go_simp) | skip
                try with_reducible rfl
              try simp only [Act.put, List.getElem_toArray, List.getElem_cons_succ, List.getElem_cons_zero, List.setIfInBounds_toArray, List.set_cons_zero, List.set_cons_succ]
              refine AnyBut.takeS (i := 30) (v := ?v182) rfl (by kernel_rfl) (Nat.le_of_eq (by kernel_rfl)) (by kernel_rfl) (by kernel_rfl) (fun _ _ _ h => h) (HS16.out) (Or.inl ⟨by kernel_rfl, ?hy182⟩) ?r182
              case hy182 =>
                intro w hSw
                try dsimp only at hSw
                go_simp
                first | (obtain ⟨z0, z1, z2⟩ := hSw; go_simp) | skip
                try with_reducible rfl
              try simp only [Act.put, List.getElem_toArray, List.getElem_cons_succ, List.getElem_cons_zero, List.setIfInBounds_toArray, List.set_cons_zero, List.set_cons_succ]
              refine AnyBut.takeS (i := 31) (v := ?v183) rfl (by kernel_rfl) (Nat.le_of_eq (by kernel_rfl)) (by kernel_rfl) (by kernel_rfl) (fun _ _ _ h => h) (HS16.out) (Or.inl ⟨by kernel_rfl, ?hy183⟩) ?r183
              case hy183 =>
                intro w hSw
                try dsimp only at hSw
                go_simp
                first | (obtain ⟨z0, z1, z2⟩ := hSw; go_simp) | skip
                try with_reducible rfl
              try simp only [Act.put, List.getElem_toArray, List.getElem_cons_succ, List.getElem_cons_zero, List.setIfInBounds_toArray, List.set_cons_zero, List.set_cons_succ]
              refine AnyBut.takeS (i := 32) (v := ?v184) rfl (by kernel_rfl) (Nat.le_of_eq (by kernel_rfl)) (by kernel_rfl) (by kernel_rfl) (fun _ _ _ h => h) (HS16.out) (Or.inl ⟨by kernel_rfl, ?hy184⟩) ?r184
              case hy184 =>
                intro w hSw
                try dsimp only at hSw
                go_simp
                first | (obtain ⟨z0, z1, z2⟩ := hSw; go_simp) | skip
                try with_reducible rfl
              try simp only [Act.put, List.getElem_toArray, List.getElem_cons_succ, List.getElem_cons_zero, List.setIfInBounds_toArray, List.set_cons_zero, List.set_cons_succ]
              refine AnyBut.takeS (i := 33) (v := ?v185) rfl (by kernel_rfl) (Nat.le_of_eq (by kernel_rfl)) (by kernel_rfl) (by kernel_rfl) (fun _ _ _ h => h) (HS16.out) (Or.inl ⟨by kernel_rfl, ?hy185⟩) ?r185
              case hy185 =>
                intro w hSw
                try dsimp only at hSw
                go_simp
                first | (obtain ⟨z0, z1, z2⟩ := hSw; go_simp) | skip
                try with_reducible rfl
              try simp only [Act.put, List.getElem_toArray, List.getElem_cons_succ, List.getElem_cons_zero, List.setIfInBounds_toArray, List.set_cons_zero, List.set_cons_succ]
              refine AnyBut.takeS (i := 34) (v := ?v186) rfl (by kernel_rfl) (Nat.le_of_eq (by kernel_rfl)) (by kernel_rfl) (by kernel_rfl) (fun _ _ _ h => h) (HS16.out) (Or.inl ⟨by kernel_rfl, ?hy186⟩) ?r186
              case hy186 =>
                intro w hSw
                try dsimp only at hSw
                go_simp
                first | (obtain ⟨z0, z1, z2⟩ := hSw; go_simp) | skip
                try with_reducible rfl
              try simp only [Act.put, List.getElem_toArray, List.getElem_cons_succ, List.getElem_cons_zero, List.setIfInBounds_toArray, List.set_cons_zero, List.set_cons_succ]
              refine AnyBut.takeS (i := 35) (v := ?v187) rfl (by kernel_rfl) (Nat.le_of_eq (by kernel_rfl)) (by kernel_rfl) (by kernel_rfl) (fun _ _ _ h => h) (HS16.out) (Or.inl ⟨by kernel_rfl, ?hy187⟩) ?r187
              case hy187 =>
                intro w hSw
                try dsimp only at hSw
                go_simp
                first | (obtain ⟨z0, z1, z2⟩ := hSw; go_simp) | skip
                try with_reducible rfl
              try simp only [Act.put, List.getElem_toArray, List.getElem_cons_succ, List.getElem_cons_zero, List.setIfInBounds_toArray, List.set_cons_zero, List.set_cons_succ]
              refine AnyBut.takeS (i := 36) (v := ?v188) rfl (by kernel_rfl) (Nat.le_of_eq (by kernel_rfl)) (by kernel_rfl) (by kernel_rfl) (fun _ _ _ h => h) (HS16.out) (Or.inl ⟨by kernel_rfl, ?hy188⟩) ?r188
              case hy188 =>
                intro w hSw
                try dsimp only at hSw
                go_simp
                first | (obtain ⟨z0, z1, z2⟩ := hSw; go_simp) | skip
                try with_reducible rfl
              try simp only [Act.put, List.getElem_toArray, List.getElem_cons_succ, List.getElem_cons_zero, List.setIfInBounds_toArray, List.set_cons_zero, List.set_cons_succ]
              refine AnyBut.done (by kernel_rfl) ?_
              clear qx ql
              go_upto_region 18 with fail
              have HK6e : Hid (Kept (fun _ => False) w5 w6.drew.drew) := Lib.hid (HK6d.out.trans (Kept.refl _ _).drew)
              have HS18 : Hid ((fun w' => w'.cell? ⟨g8, 16, none⟩ = some (.int .i64 2) ∧ w'.cell? ⟨gi, oi + i * 17 + 5, none⟩ = some (.int .i64 xs) ∧ w'.cell? ⟨gi, oi + j * 17 + 6, none⟩ = some (.int .i64 pt) ∧ w'.cell? ⟨gi, oi + j * 17 + 5, none⟩ = some (.int .i64 ps)) w6.drew.drew) := Lib.hid ⟨(HSB.out _ HK6e.out).2.1.2.2, (HIW.out _ (HK5.out.trans HK6e.out)).1, HPI.out _ (HK5.out.trans HK6e.out), HPT.out _ (HK5.out.trans HK6e.out)⟩
              refine AnyBut.start (S := fun w' => w'.cell? ⟨g8, 16, none⟩ = some (.int .i64 2) ∧ w'.cell? ⟨gi, oi + i * 17 + 5, none⟩ = some (.int .i64 xs) ∧ w'.cell? ⟨gi, oi + j * 17 + 6, none⟩ = some (.int .i64 pt) ∧ w'.cell? ⟨gi, oi + j * 17 + 5, none⟩ = some (.int .i64 ps)) (k := 32) (by kernel_rfl) ?_
              refine AnyBut.takeS (i := 0) (v := ?v189) rfl (by kernel_rfl) (Nat.le_of_eq (by kernel_rfl)) (by kernel_rfl) (by kernel_rfl) (fun _ _ _ h => h) (HS18.out) (Or.inl ⟨by kernel_rfl, ?hy189⟩) ?r189
              case hy189 =>
                intro w hSw
                try dsimp only at hSw
                go_simp
                first | (obtain ⟨z0, z1, z2, z3⟩ := hSw; go_simp) | skip
                try with_reducible rfl
              try simp only [Act.put, List.getElem_toArray, List.getElem_cons_zero, List.setIfInBounds_toArray, List.set_cons_zero, List.set_cons_succ]
              refine AnyBut.takeS (i := 1) (v := ?v190) rfl (by kernel_rfl) (Nat.le_of_eq (by kernel_rfl)) (by kernel_rfl) (by kernel_rfl) (fun _ _ _ h => h) (HS18.out) (Or.inl ⟨by kernel_rfl, ?hy190⟩) ?r190
              case hy190 =>
                intro w hSw
                try dsimp only at hSw
                go_simp
                first | (obtain ⟨z0, z1, z2, z3⟩ := hSw; go_simp) | skip
                try with_reducible rfl
              try simp only [Act.put, List.getElem_toArray, List.getElem_cons_succ, List.getElem_cons_zero, List.setIfInBounds_toArray, List.set_cons_zero, List.set_cons_succ]
              refine AnyBut.takeS (i := 2) (v := ?v191) rfl (by kernel_rfl) (Nat.le_of_eq (by kernel_rfl)) (by kernel_rfl) (by kernel_rfl) (fun _ _ _ h => h) (HS18.out) (Or.inl ⟨by kernel_rfl, ?hy191⟩) ?r191
              case hy191 =>
                intro w hSw
                try dsimp only at hSw
                go_simp
                first | (obtain ⟨z0, z1, z2, z3⟩ := hSw; go_simp) | skip
                try with_reducible rfl
              try simp only [Act.put, List.getElem_toArray, List.getElem_cons_succ, List.getElem_cons_zero, List.setIfInBounds_toArray, List.set_cons_zero, List.set_cons_succ]
              refine AnyBut.takeS (i := 3) (v := ?v192) rfl (by kernel_rfl) (Nat.le_of_eq (by kernel_rfl)) (by kernel_rfl) (by kernel_rfl) (fun _ _ _ h => h) (HS18.out) (Or.inl ⟨by kernel_rfl, ?hy192⟩) ?r192
              case hy192 =>
                intro w hSw
                try dsimp only at hSw
                go_simp
                first | (obtain ⟨z0, z1, z2, z3⟩ := hSw; go_simp) | skip
                try with_reducible rfl
              try simp only [Act.put, List.getElem_toArray, List.getElem_cons_succ, List.getElem_cons_zero, List.setIfInBounds_toArray, List.set_cons_zero, List.set_cons_succ]
              refine AnyBut.takeS (i := 4) (v := ?v193) rfl (by kernel_rfl) (Nat.le_of_eq (by kernel_rfl)) (by kernel_rfl) (by kernel_rfl) (fun _ _ _ h => h) (HS18.out) (Or.inl ⟨by kernel_rfl, ?hy193⟩) ?r193
              case hy193 =>
                intro w hSw
                try dsimp only at hSw
                go_simp
                first | (obtain ⟨z0, z1, z2, z3⟩ := hSw; go_simp) | skip
                try with_reducible rfl
              try simp only [Act.put, List.getElem_toArray, List.getElem_cons_succ, List.getElem_cons_zero, List.setIfInBounds_toArray, List.set_cons_zero, List.set_cons_succ]
              refine AnyBut.takeS (i := 5) (v := ?v194) rfl (by kernel_rfl) (Nat.le_of_eq (by kernel_rfl)) (by kernel_rfl) (by kernel_rfl) (fun _ _ _ h => h) (HS18.out) (Or.inl ⟨by kernel_rfl, ?hy194⟩) ?r194
              case hy194 =>
                intro w hSw
                try dsimp only at hSw
                go_simp
                first | (obtain ⟨z0, z1, z2, z3⟩ := hSw; go_simp) | skip
                try with_reducible rfl
              try simp only [Act.put, List.getElem_toArray, List.getElem_cons_succ, List.getElem_cons_zero, List.setIfInBounds_toArray, List.set_cons_zero, List.set_cons_succ]
              refine AnyBut.takeS (i := 6) (v := ?v195) rfl (by kernel_rfl) (Nat.le_of_eq (by kernel_rfl)) (by kernel_rfl) (by kernel_rfl) (fun _ _ _ h => h) (HS18.out) (Or.inl ⟨by kernel_rfl, ?hy195⟩) ?r195
              case hy195 =>
                intro w hSw
                try dsimp only at hSw
                go_simp
                first | (obtain ⟨z0, z1, z2, z3⟩ := hSw; go_simp) | skip
                try with_reducible rfl
              try simp only [Act.put, List.getElem_toArray, List.getElem_cons_succ, List.getElem_cons_zero, List.setIfInBounds_toArray, List.set_cons_zero, List.set_cons_succ]
              refine AnyBut.takeS (i := 7) (v := ?v196) rfl (by kernel_rfl) (Nat.le_of_eq (by kernel_rfl)) (by kernel_rfl) (by kernel_rfl) (fun _ _ _ h => h) (HS18.out) (Or.inl ⟨by kernel_rfl, ?hy196⟩) ?r196
              case hy196 =>
                intro w hSw
                try dsimp only at hSw
                go_simp
                first | (obtain ⟨z0, z1, z2, z3⟩ := hSw; go_simp) | skip
                try with_reducible rfl
              try simp only [Act.put, List.getElem_toArray, List.getElem_cons_succ, List.getElem_cons_zero, List.setIfInBounds_toArray, List.set_cons_zero, List.set_cons_succ]
              refine AnyBut.takeS (i := 8) (v := ?v197) rfl (by kernel_rfl) (Nat.le_of_eq (by kernel_rfl)) (by kernel_rfl) (by kernel_rfl) (fun _ _ _ h => h) (HS18.out) (Or.inl ⟨by kernel_rfl, ?hy197⟩) ?r197
              case hy197 =>
                intro w hSw
                try dsimp only at hSw
                go_simp
                first | (obtain ⟨z0, z1, z2, z3⟩ := hSw; go_simp) | skip
                try with_reducible rfl
              try simp only [Act.put, List.getElem_toArray, List.getElem_cons_succ, List.getElem_cons_zero, List.setIfInBounds_toArray, List.set_cons_zero, List.set_cons_succ]
              refine AnyBut.takeS (i := 9) (v := ?v198) rfl (by kernel_rfl) (Nat.le_of_eq (by kernel_rfl)) (by kernel_rfl) (by kernel_rfl) (fun _ _ _ h => h) (HS18.out) (Or.inl ⟨by kernel_rfl, ?hy198⟩) ?r198
              case hy198 =>
                intro w hSw
                try dsimp only at hSw
                go_simp
                first | (obtain ⟨z0, z1, z2, z3⟩ := hSw; go_simp) | skip
                try with_reducible rfl
              try simp only [Act.put, List.getElem_toArray, List.getElem_cons_succ, List.getElem_cons_zero, List.setIfInBounds_toArray, List.set_cons_zero, List.set_cons_succ]
              refine AnyBut.takeS (i := 10) (v := ?v199) rfl (by kernel_rfl) (Nat.le_of_eq (by kernel_rfl)) (by kernel_rfl) (by kernel_rfl) (fun _ _ _ h => h) (HS18.out) (Or.inl ⟨by kernel_rfl, ?hy199⟩) ?r199
              case hy199 =>
                intro w hSw
                try dsimp only at hSw
                go_simp
                first | (obtain ⟨z0, z1, z2, z3⟩ := hSw; go_simp) | skip
                try with_reducible rfl
              try simp only [Act.put, List.getElem_toArray, List.getElem_cons_succ, List.getElem_cons_zero, List.setIfInBounds_toArray, List.set_cons_zero, List.set_cons_succ]
              refine AnyBut.takeS (i := 11) (v := ?v200) rfl (by kernel_rfl) (Nat.le_of_eq (by kernel_rfl)) (by kernel_rfl) (by kernel_rfl) (fun _ _ _ h => h) (HS18.out) (Or.inl ⟨by kernel_rfl, ?hy200⟩) ?r200
              case hy200 =>
                intro w hSw
                try dsimp only at hSw
                go_simp
                first | (obtain ⟨z0, z1, z2, z3⟩ := hSw; go_simp) | skip
                try with_reducible rfl
              try simp only [Act.put, List.getElem_toArray, List.getElem_cons_succ, List.getElem_cons_zero, List.setIfInBounds_toArray, List.set_cons_zero, List.set_cons_succ]
              refine AnyBut.takeS (i := 12) (v := ?v201) rfl (by kernel_rfl) (Nat.le_of_eq (by kernel_rfl)) (by kernel_rfl) (by kernel_rfl) (fun _ _ _ h => h) (HS18.out) (Or.inl ⟨by kernel_rfl, ?hy201⟩) ?r201
              case hy201 =>
                intro w hSw
                try dsimp only at hSw
                go_simp
                first | (obtain ⟨z0, z1, z2, z3⟩ := hSw; go_simp) | skip
                try with_reducible rfl
              try simp only [Act.put, List.getElem_toArray, List.getElem_cons_succ, List.getElem_cons_zero, List.setIfInBounds_toArray, List.set_cons_zero, List.set_cons_succ]
              refine AnyBut.takeS (i := 13) (v := ?v202) rfl (by kernel_rfl) (Nat.le_of_eq (by kernel_rfl)) (by kernel_rfl) (by kernel_rfl) (fun _ _ _ h => h) (HS18.out) (Or.inl ⟨by kernel_rfl, ?hy202⟩) ?r202
              case hy202 =>
                intro w hSw
                try dsimp only at hSw
                go_simp
                first | (obtain ⟨z0, z1, z2, z3⟩ := hSw; go_simp) | skip
                try with_reducible rfl
              try simp only [Act.put, List.getElem_toArray, List.getElem_cons_succ, List.getElem_cons_zero, List.setIfInBounds_toArray, List.set_cons_zero, List.set_cons_succ]
              refine AnyBut.takeS (i := 14) (v := ?v203) rfl (by kernel_rfl) (Nat.le_of_eq (by kernel_rfl)) (by kernel_rfl) (by kernel_rfl) (fun _ _ _ h => h) (HS18.out) (Or.inl ⟨by kernel_rfl, ?hy203⟩) ?r203
              case hy203 =>
                intro w hSw
                try dsimp only at hSw
                go_simp
                first | (obtain ⟨z0, z1, z2, z3⟩ := hSw; go_simp) | skip
                try with_reducible rfl
              try simp only [Act.put, List.getElem_toArray, List.getElem_cons_succ, List.getElem_cons_zero, List.setIfInBounds_toArray, List.set_cons_zero, List.set_cons_succ]
              refine AnyBut.takeS (i := 15) (v := ?v204) rfl (by kernel_rfl) (Nat.le_of_eq (by kernel_rfl)) (by kernel_rfl) (by kernel_rfl) (fun _ _ _ h => h) (HS18.out) (Or.inl ⟨by kernel_rfl, ?hy204⟩) ?r204
              case hy204 =>
                intro w hSw
                try dsimp only at hSw
                go_simp
                first | (obtain ⟨z0, z1, z2, z3⟩ := hSw; go_simp) | skip
                try with_reducible rfl
              try simp only [Act.put, List.getElem_toArray, List.getElem_cons_succ, List.getElem_cons_zero, List.setIfInBounds_toArray, List.set_cons_zero, List.set_cons_succ]
              refine AnyBut.takeS (i := 16) (v := ?v205) rfl (by kernel_rfl) (Nat.le_of_eq (by kernel_rfl)) (by kernel_rfl) (by kernel_rfl) (fun _ _ _ h => h) (HS18.out) (Or.inl ⟨by kernel_rfl, ?hy205⟩) ?r205
              case hy205 =>
                intro w hSw
                try dsimp only at hSw
                go_simp
                first | (obtain ⟨z0, z1, z2, z3⟩ := hSw; go_simp) | skip
                try with_reducible rfl
              try simp only [Act.put, List.getElem_toArray, List.getElem_cons_succ, List.getElem_cons_zero, List.setIfInBounds_toArray, List.set_cons_zero, List.set_cons_succ]
              refine AnyBut.takeS (i := 17) (v := ?v206) rfl (by kernel_rfl) (Nat.le_of_eq (by kernel_rfl)) (by kernel_rfl) (by kernel_rfl) (fun _ _ _ h => h) (HS18.out) (Or.inl ⟨by kernel_rfl, ?hy206⟩) ?r206
              case hy206 =>
                intro w hSw
                try dsimp only at hSw
                go_simp
                first | (obtain ⟨z0, z1, z2, z3⟩ := hSw; go_simp) | skip
                try with_reducible rfl
              try simp only [Act.put, List.getElem_toArray, List.getElem_cons_succ, List.getElem_cons_zero, List.setIfInBounds_toArray, List.set_cons_zero, List.set_cons_succ]
              refine AnyBut.takeS (i := 18) (v := ?v207) rfl (by kernel_rfl) (Nat.le_of_eq (by kernel_rfl)) (by kernel_rfl) (by kernel_rfl) (fun _ _ _ h => h) (HS18.out) (Or.inl ⟨by kernel_rfl, ?hy207⟩) ?r207
              case hy207 =>
                intro w hSw
                try dsimp only at hSw
                go_simp
                first | (obtain ⟨z0, z1, z2, z3⟩ := hSw; go_simp) | skip
                try with_reducible rfl
              try simp only [Act.put, List.getElem_toArray, List.getElem_cons_succ, List.getElem_cons_zero, List.setIfInBounds_toArray, List.set_cons_zero, List.set_cons_succ]
              refine AnyBut.takeS (i := 19) (v := ?v208) rfl (by kernel_rfl) (Nat.le_of_eq (by kernel_rfl)) (by kernel_rfl) (by kernel_rfl) (fun _ _ _ h => h) (HS18.out) (Or.inl ⟨by kernel_rfl, ?hy208⟩) ?r208
              case hy208 =>
                intro w hSw
                try dsimp only at hSw
                go_simp
                first | (obtain ⟨z0, z1, z2, z3⟩ := hSw; go_simp) | skip
                try with_reducible rfl
              try simp only [Act.put, List.getElem_toArray, List.getElem_cons_succ, List.getElem_cons_zero, List.setIfInBounds_toArray, List.set_cons_zero, List.set_cons_succ]
              refine AnyBut.takeS (i := 20) (v := ?v209) rfl (by kernel_rfl) (Nat.le_of_eq (by kernel_rfl)) (by kernel_rfl) (by kernel_rfl) (fun _ _ _ h => h) (HS18.out) (Or.inl ⟨by kernel_rfl, ?hy209⟩) ?r209
              case hy209 =>
                intro w hSw
                try dsimp only at hSw
                go_simp
                first | (obtain ⟨z0, z1, z2, z3⟩ := hSw; go_simp) | skip
                try with_reducible rfl
              try simp only [Act.put, List.getElem_toArray, List.getElem_cons_succ, List.getElem_cons_zero, List.setIfInBounds_toArray, List.set_cons_zero, List.set_cons_succ]
              refine AnyBut.takeS (i := 21) (v := ?v210) rfl (by kernel_rfl) (Nat.le_of_eq (by kernel_rfl)) (by kernel_rfl) (by kernel_rfl) (fun _ _ _ h => h) (HS18.out) (Or.inl ⟨by kernel_rfl, ?hy210⟩) ?r210
              case hy210 =>
                intro w hSw
                try dsimp only at hSw
                go_simp
                first | (obtain ⟨z0, z1, z2, z3⟩ := hSw; go_simp) | skip
                try with_reducible rfl
              try simp only [Act.put, List.getElem_toArray, List.getElem_cons_succ, List.getElem_cons_zero, List.setIfInBounds_toArray, List.set_cons_zero, List.set_cons_succ]
              refine AnyBut.takeS (i := 22) (v := ?v211) rfl (by kernel_rfl) (Nat.le_of_eq (by kernel_rfl)) (by kernel_rfl) (by kernel_rfl) (fun _ _ _ h => h) (HS18.out) (Or.inl ⟨by kernel_rfl, ?hy211⟩) ?r211
              case hy211 =>
                intro w hSw
                try dsimp only at hSw
                go_simp
                first | (obtain ⟨z0, z1, z2, z3⟩ := hSw; go_simp) | skip
                try with_reducible rfl
              try simp only [Act.put, List.getElem_toArray, List.getElem_cons_succ, List.getElem_cons_zero, List.setIfInBounds_toArray, List.set_cons_zero, List.set_cons_succ]
              refine AnyBut.takeS (i := 23) (v := ?v212) rfl (by kernel_rfl) (Nat.le_of_eq (by kernel_rfl)) (by kernel_rfl) (by kernel_rfl) (fun _ _ _ h => h) (HS18.out) (Or.inl ⟨by kernel_rfl, ?hy212⟩) ?r212
              case hy212 =>
                intro w hSw
                try dsimp only at hSw
                go_simp
                first | (obtain ⟨z0, z1, z2, z3⟩ := hSw; go_simp) | skip
                try with_reducible rfl
              try simp only [Act.put, List.getElem_toArray, List.getElem_cons_succ, List.getElem_cons_zero, List.setIfInBounds_toArray, List.set_cons_zero, List.set_cons_succ]
              refine AnyBut.takeS (i := 24) (v := ?v213) rfl (by kernel_rfl) (Nat.le_of_eq (by kernel_rfl)) (by kernel_rfl) (by kernel_rfl) (fun _ _ _ h => h) (HS18.out) (Or.inl ⟨by kernel_rfl, ?hy213⟩) ?r213
              case hy213 =>
                intro w hSw
                try dsimp only at hSw
                go_simp
                first | (obtain ⟨z0, z1, z2, z3⟩ := hSw; go_simp) | skip
                try with_reducible rfl
              try simp only [Act.put, List.getElem_toArray, List.getElem_cons_succ, List.getElem_cons_zero, List.setIfInBounds_toArray, List.set_cons_zero, List.set_cons_succ]
              refine AnyBut.takeS (i := 25) (v := ?v214) rfl (by kernel_rfl) (Nat.le_of_eq (by kernel_rfl)) (by kernel_rfl) (by kernel_rfl) (fun _ _ _ h => h) (HS18.out) (Or.inl ⟨by kernel_rfl, ?hy214⟩) ?r214
              case hy214 =>
                intro w hSw
                try dsimp only at hSw
                go_simp
                first | (obtain ⟨z0, z1, z2, z3⟩ := hSw; go_simp) | skip
                try with_reducible rfl
              try simp only [Act.put, List.getElem_toArray, List.getElem_cons_succ, List.getElem_cons_zero, List.setIfInBounds_toArray, List.set_cons_zero, List.set_cons_succ]
              refine AnyBut.takeS (i := 26) (v := ?v215) rfl (by kernel_rfl) (Nat.le_of_eq (by kernel_rfl)) (by kernel_rfl) (by kernel_rfl) (fun _ _ _ h => h) (HS18.out) (Or.inl ⟨by kernel_rfl, ?hy215⟩) ?r215
              case hy215 =>
                intro w hSw
                try dsimp only at hSw
                go_simp
                first | (obtain ⟨z0, z1, z2, z3⟩ := hSw; go_simp) | skip
                try with_reducible rfl
              try simp only [Act.put, List.getElem_toArray, List.getElem_cons_succ, List.getElem_cons_zero, List.setIfInBounds_toArray, List.set_cons_zero, List.set_cons_succ]
              refine AnyBut.takeS (i := 27) (v := ?v216) rfl (by kernel_rfl) (Nat.le_of_eq (by kernel_rfl)) (by kernel_rfl) (by kernel_rfl) (fun _ _ _ h => h) (HS18.out) (Or.inl ⟨by kernel_rfl, ?hy216⟩) ?r216
              case hy216 =>
                intro w hSw
                try dsimp only at hSw
                go_simp
                first | (obtain ⟨z0, z1, z2, z3⟩ := hSw; go_simp) | skip
                try with_reducible rfl
              try simp only [Act.put, List.getElem_toArray, List.getElem_cons_succ, List.getElem_cons_zero, List.setIfInBounds_toArray, List.set_cons_zero, List.set_cons_succ]
              refine AnyBut.takeS (i := 28) (v := ?v217) rfl (by kernel_rfl) (Nat.le_of_eq (by kernel_rfl)) (by kernel_rfl) (by kernel_rfl) (fun _ _ _ h => h) (HS18.out) (Or.inl ⟨by kernel_rfl, ?hy217⟩) ?r217
              case hy217 =>
                intro w hSw
                try dsimp only at hSw
                go_simp
                first | (obtain ⟨z0, z1, z2, z3⟩ := hSw; go_simp) | skip
                try with_reducible rfl
              try simp only [Act.put, List.getElem_toArray, List.getElem_cons_succ, List.getElem_cons_zero, List.setIfInBounds_toArray, List.set_cons_zero, List.set_cons_succ]
              refine AnyBut.takeS (i := 29) (v := ?v218) rfl (by kernel_rfl) (Nat.le_of_eq (by kernel_rfl)) (by kernel_rfl) (by kernel_rfl) (fun _ _ _ h => h) (HS18.out) (Or.inl ⟨by kernel_rfl, ?hy218⟩) ?r218
              case hy218 =>
                intro w hSw
                try dsimp only at hSw
                go_simp
                first | (obtain ⟨z0, z1, z2, z3⟩ := hSw; go_simp) | skip
                try with_reducible rfl
              try simp only [Act.put, List.getElem_toArray, List.getElem_cons_succ, List.getElem_cons_zero, List.setIfInBounds_toArray, List.set_cons_zero, List.set_cons_succ]
              refine AnyBut.takeS (i := 30) (v := ?v219) rfl (by kernel_rfl) (Nat.le_of_eq (by kernel_rfl)) (by kernel_rfl) (by kernel_rfl) (fun _ _ _ h => h) (HS18.out) (Or.inl ⟨by kernel_rfl, ?hy219⟩) ?r219
              case hy219 =>
                intro w hSw
                try dsimp only at hSw
                go_simp
                first | (obtain ⟨z0, z1, z2, z3⟩ := hSw; go_simp) | skip
                try with_reducible rfl
              try simp only [Act.put, List.getElem_toArray, List.getElem_cons_succ, List.getElem_cons_zero, List.setIfInBounds_toArray, List.set_cons_zero, List.set_cons_succ]
              refine AnyBut.takeS (i := 31) (v := ?v220) rfl (by kernel_rfl) (Nat.le_of_eq (by kernel_rfl)) (by kernel_rfl) (by kernel_rfl) (fun _ _ _ h => h) (HS18.out) (Or.inl ⟨by kernel_rfl, ?hy220⟩) ?r220
              case hy220 =>
                intro w hSw
                try dsimp only at hSw
                go_simp
                first | (obtain ⟨z0, z1, z2, z3⟩ := hSw; go_simp) | skip
                try with_reducible rfl
              try simp only [Act.put, List.getElem_toArray, List.getElem_cons_succ, List.getElem_cons_zero, List.setIfInBounds_toArray, List.set_cons_zero, List.set_cons_succ]
              refine AnyBut.done (by kernel_rfl) ?_
              clear q14 q15
              go_wp2
              go_roundg (m - (i + 1))
              case measure => have := HD.out; omega
              case rel => exact ⟨i + 1, HD.out, rfl, rfl, HK5.out.trans HK6e.out⟩
            · have hfl0 := hf0
              have HSV : Hid (sv = xs) := Lib.hid (hown hc)
              have q14 : decide (pt < xs) = true := decide_eq_true (hgp.1 hf0)
              have q15 : decide (ps < xs) = true := decide_eq_true hc
              have ql : decide (xs < pt) = false := decide_eq_false (by have := hown hc; omega)
              clear hmv hgp hown hgo hlt hne1 hc hf0
              go_upto_region 10 with (first | (refine wpList_load_part rfl 37 (.tmp 31) rfl go (oo + i * 17) rfl CR _ (HRR.out wr HKR.out).1 Try.underlying37 rfl HIR2.out.1 ?_) | (refine wpList_store_box rfl 37 (.tmp 9) _ rfl wr _ CR 37 rfl rfl rfl HIR2.out.1 (by rw [HIR2.out.2.1]; rfl) HIR2.out.2.2 ?_; intro w5 hb5 k5; have HB5 : Hid (w5.heap[g8]? = some (.cells CR 37 (0, 0))) := Lib.hid (by rw [HG8.out]; exact hb5); have HK5 := Lib.hid (HKR.out.trans k5); clear hb5 k5))
              rw [← HG8.out]
              obtain ⟨wD, hwd⟩ : ∃ w', w' = w5.drew := ⟨_, rfl⟩
              have qt : (tm != tm) = false := by simp
              refine AnyBut.start (S := fun w' => w'.heap[g8]? = some (.cells CR 37 (0, 0)) ∧ (w'.cell? ⟨g8, 3, none⟩ = some (.int .i64 2) ∧ w'.cell? ⟨g8, 6, none⟩ = some (.int .i64 tm) ∧ w'.cell? ⟨g8, 16, none⟩ = some (.int .i64 10)) ∧ w'.cell? ⟨gi, oi + i * 17 + 6, none⟩ = some (.int .i64 tm)) (k := 26) (by kernel_rfl) ?_
              rw [← hwd]
              have HKD : Hid (Kept (fun _ => False) w5 wD) := Lib.hid (by rw [hwd]; exact (Kept.refl _ _).drew)
              have HSB : Hid (∀ w', Kept (fun _ => False) w5 w' → (fun w' => w'.heap[g8]? = some (.cells CR 37 (0, 0)) ∧ (w'.cell? ⟨g8, 3, none⟩ = some (.int .i64 2) ∧ w'.cell? ⟨g8, 6, none⟩ = some (.int .i64 tm) ∧ w'.cell? ⟨g8, 16, none⟩ = some (.int .i64 10)) ∧ w'.cell? ⟨gi, oi + i * 17 + 6, none⟩ = some (.int .i64 tm)) w') := Lib.hid (fun w' k => ⟨k.same HB5.out (fun x => x), ⟨cell_rowZ 3 _ (k.same HB5.out (fun x => x)) HCC.out.1, cell_rowZ 6 _ (k.same HB5.out (fun x => x)) HCC.out.2.2.1, cell_rowZ 16 _ (k.same HB5.out (fun x => x)) (HCC.out.2.2.2.trans (by rw [hfl0]))⟩, (HIW.out w' (HK5.out.trans k)).2⟩)
              have HS0 := Lib.hid (HSB.out wD HKD.out)
              clear hwd hfl0
              refine AnyBut.takeS (i := 0) (v := ?v221) rfl (by kernel_rfl) (Nat.le_of_eq (by kernel_rfl)) (by kernel_rfl) (by kernel_rfl) (fun _ _ _ h => h) (HS0.out) (Or.inl ⟨by kernel_rfl, ?hy221⟩) ?r221
              case hy221 =>
                intro w hSw
                try dsimp only at hSw
                refine exec_load_row 37 (.tmp 9) ?_ g8 ?_ 37 _ (0, 0) _ hSw.1 Try.underlying37 rfl HIR2.out.1
                · rfl
                · rfl
              try simp only [Act.put, List.getElem_toArray, List.getElem_cons_zero, List.setIfInBounds_toArray, List.set_cons_zero, List.set_cons_succ]
              refine AnyBut.one (i := 1) (by kernel_rfl) rfl (fun K hK => ?_)
              go_simp
              go_wp2_with fail
              refine (HCK.out wD (HK5.out.trans HKD.out)).mono ?_
              rintro e w6 ⟨rfl, k6⟩
              have HS6 := Lib.hid (HSB.out w6 (HKD.out.trans k6))
              have HK6 := Lib.hid (HKD.out.trans k6)
              clear k6
              go_wp2
              refine hK.out _ _ (HS6.out) ?_
              clear hK K
              try simp only [Act.put, List.getElem_toArray, List.getElem_cons_succ, List.getElem_cons_zero, List.setIfInBounds_toArray, List.set_cons_zero, List.set_cons_succ]
              refine AnyBut.takeS (i := 2) (v := ?v222) rfl (by kernel_rfl) (Nat.le_of_eq (by kernel_rfl)) (by kernel_rfl) (by kernel_rfl) (fun _ _ _ h => h) (HS6.out) (Or.inl ⟨by kernel_rfl, ?hy222⟩) ?r222
              case hy222 =>
                intro w hSw
                try dsimp only at hSw
                go_simp
                first | (obtain ⟨z0, ⟨z1, z2, z3⟩, z4⟩ := hSw; go_simp) | skip
                try with_reducible rfl
              try simp only [Act.put, List.getElem_toArray, List.getElem_cons_succ, List.getElem_cons_zero, List.setIfInBounds_toArray, List.set_cons_zero, List.set_cons_succ]
              refine AnyBut.takeS (i := 3) (v := ?v223) rfl (by kernel_rfl) (Nat.le_of_eq (by kernel_rfl)) (by kernel_rfl) (by kernel_rfl) (fun _ _ _ h => h) (HS6.out) (Or.inl ⟨by kernel_rfl, ?hy223⟩) ?r223
              case hy223 =>
                intro w hSw
                try dsimp only at hSw
                go_simp
                first | (obtain ⟨z0, ⟨z1, z2, z3⟩, z4⟩ := hSw; go_simp) | skip
                try with_reducible rfl
              try simp only [Act.put, List.getElem_toArray, List.getElem_cons_succ, List.getElem_cons_zero, List.setIfInBounds_toArray, List.set_cons_zero, List.set_cons_succ]
              refine AnyBut.takeS (i := 4) (v := ?v224) rfl (by kernel_rfl) (Nat.le_of_eq (by kernel_rfl)) (by kernel_rfl) (by kernel_rfl) (fun _ _ _ h => h) (HS6.out) (Or.inl ⟨by kernel_rfl, ?hy224⟩) ?r224
              case hy224 =>
                intro w hSw
                try dsimp only at hSw
                go_simp
                first | (obtain ⟨z0, ⟨z1, z2, z3⟩, z4⟩ := hSw; go_simp) | skip
                try with_reducible rfl
              try simp only [Act.put, List.getElem_toArray, List.getElem_cons_succ, List.getElem_cons_zero, List.setIfInBounds_toArray, List.set_cons_zero, List.set_cons_succ]
              refine AnyBut.takeS (i := 5) (v := ?v225) rfl (by kernel_rfl) (Nat.le_of_eq (by kernel_rfl)) (by kernel_rfl) (by kernel_rfl) (fun _ _ _ h => h) (HS6.out) (Or.inl ⟨by kernel_rfl, ?hy225⟩) ?r225
              case hy225 =>
                intro w hSw
                try dsimp only at hSw
                go_simp
                first | (obtain ⟨z0, ⟨z1, z2, z3⟩, z4⟩ := hSw; go_simp) | skip
                try with_reducible rfl
              try simp only [Act.put, List.getElem_toArray, List.getElem_cons_succ, List.getElem_cons_zero, List.setIfInBounds_toArray, List.set_cons_zero, List.set_cons_succ]
              refine AnyBut.takeS (i := 6) (v := ?v226) rfl (by kernel_rfl) (Nat.le_of_eq (by kernel_rfl)) (by kernel_rfl) (by kernel_rfl) (fun _ _ _ h => h) (HS6.out) (Or.inl ⟨by kernel_rfl, ?hy226⟩) ?r226
              case hy226 =>
                intro w hSw
                try dsimp only at hSw
                go_simp
                first | (obtain ⟨z0, ⟨z1, z2, z3⟩, z4⟩ := hSw; go_simp) | skip
                try with_reducible rfl
              try simp only [Act.put, List.getElem_toArray, List.getElem_cons_succ, List.getElem_cons_zero, List.setIfInBounds_toArray, List.set_cons_zero, List.set_cons_succ]
              refine AnyBut.takeS (i := 7) (v := ?v227) rfl (by kernel_rfl) (Nat.le_of_eq (by kernel_rfl)) (by kernel_rfl) (by kernel_rfl) (fun _ _ _ h => h) (HS6.out) (Or.inl ⟨by kernel_rfl, ?hy227⟩) ?r227
              case hy227 =>
                intro w hSw
                try dsimp only at hSw
                go_simp
                first | (obtain ⟨z0, ⟨z1, z2, z3⟩, z4⟩ := hSw; go_simp) | skip
                try with_reducible rfl
              try simp only [Act.put, List.getElem_toArray, List.getElem_cons_succ, List.getElem_cons_zero, List.setIfInBounds_toArray, List.set_cons_zero, List.set_cons_succ]
              refine AnyBut.takeS (i := 8) (v := ?v228) rfl (by kernel_rfl) (Nat.le_of_eq (by kernel_rfl)) (by kernel_rfl) (by kernel_rfl) (fun _ _ _ h => h) (HS6.out) (Or.inl ⟨by kernel_rfl, ?hy228⟩) ?r228
              case hy228 =>
                intro w hSw
                try dsimp only at hSw
                go_simp
                first | (obtain ⟨z0, ⟨z1, z2, z3⟩, z4⟩ := hSw; go_simp) | skip
                try with_reducible rfl
              try simp only [Act.put, List.getElem_toArray, List.getElem_cons_succ, List.getElem_cons_zero, List.setIfInBounds_toArray, List.set_cons_zero, List.set_cons_succ]
              refine AnyBut.takeS (i := 9) (v := ?v229) rfl (by kernel_rfl) (Nat.le_of_eq (by kernel_rfl)) (by kernel_rfl) (by kernel_rfl) (fun _ _ _ h => h) (HS6.out) (Or.inl ⟨by kernel_rfl, ?hy229⟩) ?r229
              case hy229 =>
                intro w hSw
                try dsimp only at hSw
                go_simp
                first | (obtain ⟨z0, ⟨z1, z2, z3⟩, z4⟩ := hSw; go_simp) | skip
                try with_reducible rfl
              try simp only [Act.put, List.getElem_toArray, List.getElem_cons_succ, List.getElem_cons_zero, List.setIfInBounds_toArray, List.set_cons_zero, List.set_cons_succ]
              refine AnyBut.takeS (i := 10) (v := ?v230) rfl (by kernel_rfl) (Nat.le_of_eq (by kernel_rfl)) (by kernel_rfl) (by kernel_rfl) (fun _ _ _ h => h) (HS6.out) (Or.inl ⟨by kernel_rfl, ?hy230⟩) ?r230
              case hy230 =>
                intro w hSw
                try dsimp only at hSw
                go_simp
                first | (obtain ⟨z0, ⟨z1, z2, z3⟩, z4⟩ := hSw; go_simp) | skip
                try with_reducible rfl
              try simp only [Act.put, List.getElem_toArray, List.getElem_cons_succ, List.getElem_cons_zero, List.setIfInBounds_toArray, List.set_cons_zero, List.set_cons_succ]
              refine AnyBut.takeS (i := 11) (v := ?v231) rfl (by kernel_rfl) (Nat.le_of_eq (by kernel_rfl)) (by kernel_rfl) (by kernel_rfl) (fun _ _ _ h => h) (HS6.out) (Or.inl ⟨by kernel_rfl, ?hy231⟩) ?r231
              case hy231 =>
                intro w hSw
                try dsimp only at hSw
                go_simp
                first | (obtain ⟨z0, ⟨z1, z2, z3⟩, z4⟩ := hSw; go_simp) | skip
                try with_reducible rfl
              try simp only [Act.put, List.getElem_toArray, List.getElem_cons_succ, List.getElem_cons_zero, List.setIfInBounds_toArray, List.set_cons_zero, List.set_cons_succ]
              refine AnyBut.takeS (i := 12) (v := ?v232) rfl (by kernel_rfl) (Nat.le_of_eq (by kernel_rfl)) (by kernel_rfl) (by kernel_rfl) (fun _ _ _ h => h) (HS6.out) (Or.inl ⟨by kernel_rfl, ?hy232⟩) ?r232
              case hy232 =>
                intro w hSw
                try dsimp only at hSw
                go_simp
                first | (obtain ⟨z0, ⟨z1, z2, z3⟩, z4⟩ := hSw; go_simp) | skip
                try with_reducible rfl
              try simp only [Act.put, List.getElem_toArray, List.getElem_cons_succ, List.getElem_cons_zero, List.setIfInBounds_toArray, List.set_cons_zero, List.set_cons_succ]
              refine AnyBut.takeS (i := 13) (v := ?v233) rfl (by kernel_rfl) (Nat.le_of_eq (by kernel_rfl)) (by kernel_rfl) (by kernel_rfl) (fun _ _ _ h => h) (HS6.out) (Or.inl ⟨by kernel_rfl, ?hy233⟩) ?r233
              case hy233 =>
                intro w hSw
                try dsimp only at hSw
                go_simp
                first | (obtain ⟨z0, ⟨z1, z2, z3⟩, z4⟩ := hSw; go_simp) | skip
                try with_reducible rfl
              try simp only [Act.put, List.getElem_toArray, List.getElem_cons_succ, List.getElem_cons_zero, List.setIfInBounds_toArray, List.set_cons_zero, List.set_cons_succ]
              refine AnyBut.takeS (i := 14) (v := ?v234) rfl (by kernel_rfl) (Nat.le_of_eq (by kernel_rfl)) (by kernel_rfl) (by kernel_rfl) (fun _ _ _ h => h) (HS6.out) (Or.inl ⟨by kernel_rfl, ?hy234⟩) ?r234
              case hy234 =>
                intro w hSw
                try dsimp only at hSw
                go_simp
                first | (obtain ⟨z0, ⟨z1, z2, z3⟩, z4⟩ := hSw; go_simp) | skip
                try with_reducible rfl
              try simp only [Act.put, List.getElem_toArray, List.getElem_cons_succ, List.getElem_cons_zero, List.setIfInBounds_toArray, List.set_cons_zero, List.set_cons_succ]
              refine AnyBut.takeS (i := 15) (v := ?v235) rfl (by kernel_rfl) (Nat.le_of_eq (by kernel_rfl)) (by kernel_rfl) (by kernel_rfl) (fun _ _ _ h => h) (HS6.out) (Or.inl ⟨by kernel_rfl, ?hy235⟩) ?r235
              case hy235 =>
                intro w hSw
                try dsimp only at hSw
                go_simp
                first | (obtain ⟨z0, ⟨z1, z2, z3⟩, z4⟩ := hSw; go_simp) | skip
                try with_reducible rfl
              try simp only [Act.put, List.getElem_toArray, List.getElem_cons_succ, List.getElem_cons_zero, List.setIfInBounds_toArray, List.set_cons_zero, List.set_cons_succ]
              refine AnyBut.takeS (i := 16) (v := ?v236) rfl (by kernel_rfl) (Nat.le_of_eq (by kernel_rfl)) (by kernel_rfl) (by kernel_rfl) (fun _ _ _ h => h) (HS6.out) (Or.inl ⟨by kernel_rfl, ?hy236⟩) ?r236
              case hy236 =>
                intro w hSw
                try dsimp only at hSw
                go_simp
                first | (obtain ⟨z0, ⟨z1, z2, z3⟩, z4⟩ := hSw; go_simp) | skip
                try with_reducible rfl
              try simp only [Act.put, List.getElem_toArray, List.getElem_cons_succ, List.getElem_cons_zero, List.setIfInBounds_toArray, List.set_cons_zero, List.set_cons_succ]
              refine AnyBut.takeS (i := 17) (v := ?v237) rfl (by kernel_rfl) (Nat.le_of_eq (by kernel_rfl)) (by kernel_rfl) (by kernel_rfl) (fun _ _ _ h => h) (HS6.out) (Or.inl ⟨by kernel_rfl, ?hy237⟩) ?r237
              case hy237 =>
                intro w hSw
                try dsimp only at hSw
                go_simp
                first | (obtain ⟨z0, ⟨z1, z2, z3⟩, z4⟩ := hSw; go_simp) | skip
                try with_reducible rfl
              try simp only [Act.put, List.getElem_toArray, List.getElem_cons_succ, List.getElem_cons_zero, List.setIfInBounds_toArray, List.set_cons_zero, List.set_cons_succ]
              refine AnyBut.takeS (i := 18) (v := ?v238) rfl (by kernel_rfl) (Nat.le_of_eq (by kernel_rfl)) (by kernel_rfl) (by kernel_rfl) (fun _ _ _ h => h) (HS6.out) (Or.inl ⟨by kernel_rfl, ?hy238⟩) ?r238
              case hy238 =>
                intro w hSw
                try dsimp only at hSw
                go_simp
                first | (obtain ⟨z0, ⟨z1, z2, z3⟩, z4⟩ := hSw; go_simp) | skip
                try with_reducible rfl
              try simp only [Act.put, List.getElem_toArray, List.getElem_cons_succ, List.getElem_cons_zero, List.setIfInBounds_toArray, List.set_cons_zero, List.set_cons_succ]
              refine AnyBut.takeS (i := 19) (v := ?v239) rfl (by kernel_rfl) (Nat.le_of_eq (by kernel_rfl)) (by kernel_rfl) (by kernel_rfl) (fun _ _ _ h => h) (HS6.out) (Or.inl ⟨by kernel_rfl, ?hy239⟩) ?r239
              case hy239 =>
                intro w hSw
                try dsimp only at hSw
                go_simp
                first | (obtain ⟨z0, ⟨z1, z2, z3⟩, z4⟩ := hSw; go_simp) | skip
                try with_reducible rfl
              try simp only [Act.put, List.getElem_toArray, List.getElem_cons_succ, List.getElem_cons_zero, List.setIfInBounds_toArray, List.set_cons_zero, List.set_cons_succ]
              refine AnyBut.takeS (i := 20) (v := ?v240) rfl (by kernel_rfl) (Nat.le_of_eq (by kernel_rfl)) (by kernel_rfl) (by kernel_rfl) (fun _ _ _ h => h) (HS6.out) (Or.inl ⟨by kernel_rfl, ?hy240⟩) ?r240
              case hy240 =>
                intro w hSw
                try dsimp only at hSw
                go_simp
                first | (obtain ⟨z0, ⟨z1, z2, z3⟩, z4⟩ := hSw; go_simp) | skip
                try with_reducible rfl
              try simp only [Act.put, List.getElem_toArray, List.getElem_cons_succ, List.getElem_cons_zero, List.setIfInBounds_toArray, List.set_cons_zero, List.set_cons_succ]
              refine AnyBut.takeS (i := 21) (v := ?v241) rfl (by kernel_rfl) (Nat.le_of_eq (by kernel_rfl)) (by kernel_rfl) (by kernel_rfl) (fun _ _ _ h => h) (HS6.out) (Or.inl ⟨by kernel_rfl, ?hy241⟩) ?r241
              case hy241 =>
                intro w hSw
                try dsimp only at hSw
                go_simp
                first | (obtain ⟨z0, ⟨z1, z2, z3⟩, z4⟩ := hSw; go_simp) | skip
                try with_reducible rfl
              try simp only [Act.put, List.getElem_toArray, List.getElem_cons_succ, List.getElem_cons_zero, List.setIfInBounds_toArray, List.set_cons_zero, List.set_cons_succ]
              refine AnyBut.takeS (i := 22) (v := ?v242) rfl (by kernel_rfl) (Nat.le_of_eq (by kernel_rfl)) (by kernel_rfl) (by kernel_rfl) (fun _ _ _ h => h) (HS6.out) (Or.inl ⟨by kernel_rfl, ?hy242⟩) ?r242
              case hy242 =>
                intro w hSw
                try dsimp only at hSw
                go_simp
                first | (obtain ⟨z0, ⟨z1, z2, z3⟩, z4⟩ := hSw; go_simp) | skip
                try with_reducible rfl
              try simp only [Act.put, List.getElem_toArray, List.getElem_cons_succ, List.getElem_cons_zero, List.setIfInBounds_toArray, List.set_cons_zero, List.set_cons_succ]
              refine AnyBut.takeS (i := 23) (v := ?v243) rfl (by kernel_rfl) (Nat.le_of_eq (by kernel_rfl)) (by kernel_rfl) (by kernel_rfl) (fun _ _ _ h => h) (HS6.out) (Or.inl ⟨by kernel_rfl, ?hy243⟩) ?r243
              case hy243 =>
                intro w hSw
                try dsimp only at hSw
                go_simp
                first | (obtain ⟨z0, ⟨z1, z2, z3⟩, z4⟩ := hSw; go_simp) | skip
                try with_reducible rfl
              try simp only [Act.put, List.getElem_toArray, List.getElem_cons_succ, List.getElem_cons_zero, List.setIfInBounds_toArray, List.set_cons_zero, List.set_cons_succ]
              refine AnyBut.takeS (i := 24) (v := ?v244) rfl (by kernel_rfl) (Nat.le_of_eq (by kernel_rfl)) (by kernel_rfl) (by kernel_rfl) (fun _ _ _ h => h) (HS6.out) (Or.inl ⟨by kernel_rfl, ?hy244⟩) ?r244
              case hy244 =>
                intro w hSw
                try dsimp only at hSw
                go_simp
                first | (obtain ⟨z0, ⟨z1, z2, z3⟩, z4⟩ := hSw; go_simp) | skip
                try with_reducible rfl
              try simp only [Act.put, List.getElem_toArray, List.getElem_cons_succ, List.getElem_cons_zero, List.setIfInBounds_toArray, List.set_cons_zero, List.set_cons_succ]
              refine AnyBut.takeS (i := 25) (v := ?v245) rfl (by kernel_rfl) (Nat.le_of_eq (by kernel_rfl)) (by kernel_rfl) (by kernel_rfl) (fun _ _ _ h => h) (HS6.out) (Or.inl ⟨by kernel_rfl, ?hy245⟩) ?r245
              case hy245 =>
                intro w hSw
                try dsimp only at hSw
                go_simp
                first | (obtain ⟨z0, ⟨z1, z2, z3⟩, z4⟩ := hSw; go_simp) | skip
                try with_reducible rfl
              try simp only [Act.put, List.getElem_toArray, List.getElem_cons_succ, List.getElem_cons_zero, List.setIfInBounds_toArray, List.set_cons_zero, List.set_cons_succ]
              refine AnyBut.done (by kernel_rfl) ?_
              clear qt
              have c16 := (HSB.out _ HK6.out).2.1.2.2
              go_upto_region 16 with fail
              clear c16 q10
              have HK6d : Hid (Kept (fun _ => False) w5 w6.drew) := Lib.hid (HK6.out.trans (Kept.refl _ _).drew)
              have HS16 : Hid ((fun w' => w'.cell? ⟨g8, 5, none⟩ = some (.int .i64 xs) ∧ w'.cell? ⟨gi, oi + i * 17 + 5, none⟩ = some (.int .i64 xs) ∧ w'.cell? ⟨go, oo + j * 17 + 6, none⟩ = some (.int .i64 pt)) w6.drew) := Lib.hid ⟨cell_rowZ 5 _ (HK6d.out.same HB5.out (fun x => x)) (HCC.out.2.1.trans (by rw [HSV.out])), (HIW.out _ (HK5.out.trans HK6d.out)).1, HPO.out _ (HK5.out.trans HK6d.out)⟩
              have qx : (xs != xs) = false := by simp
              refine AnyBut.start (S := fun w' => w'.cell? ⟨g8, 5, none⟩ = some (.int .i64 xs) ∧ w'.cell? ⟨gi, oi + i * 17 + 5, none⟩ = some (.int .i64 xs) ∧ w'.cell? ⟨go, oo + j * 17 + 6, none⟩ = some (.int .i64 pt)) (k := 37) (by kernel_rfl) ?_
              refine AnyBut.takeS (i := 0) (v := ?v246) rfl (by kernel_rfl) (Nat.le_of_eq (by kernel_rfl)) (by kernel_rfl) (by kernel_rfl) (fun _ _ _ h => h) (HS16.out) (Or.inl ⟨by kernel_rfl, ?hy246⟩) ?r246
              case hy246 =>
                intro w hSw
                try dsimp only at hSw
                go_simp
                first | (obtain ⟨z0, z1, z2⟩ := hSw; go_simp) | skip
                try with_reducible rfl
              try simp only [Act.put, List.getElem_toArray, List.getElem_cons_zero, List.setIfInBounds_toArray, List.set_cons_zero, List.set_cons_succ]
              refine AnyBut.takeS (i := 1) (v := ?v247) rfl (by kernel_rfl) (Nat.le_of_eq (by kernel_rfl)) (by kernel_rfl) (by kernel_rfl) (fun _ _ _ h => h) (HS16.out) (Or.inl ⟨by kernel_rfl, ?hy247⟩) ?r247
              case hy247 =>
                intro w hSw
                try dsimp only at hSw
                go_simp
                first | (obtain ⟨z0, z1, z2⟩ := hSw; go_simp) | skip
                try with_reducible rfl
              try simp only [Act.put, List.getElem_toArray, List.getElem_cons_succ, List.getElem_cons_zero, List.setIfInBounds_toArray, List.set_cons_zero, List.set_cons_succ]
              refine AnyBut.takeS (i := 2) (v := ?v248) rfl (by kernel_rfl) (Nat.le_of_eq (by kernel_rfl)) (by kernel_rfl) (by kernel_rfl) (fun _ _ _ h => h) (HS16.out) (Or.inl ⟨by kernel_rfl, ?hy248⟩) ?r248
              case hy248 =>
                intro w hSw
                try dsimp only at hSw
                go_simp
                first | (obtain ⟨z0, z1, z2⟩ := hSw; go_simp) | skip
                try with_reducible rfl
              try simp only [Act.put, List.getElem_toArray, List.getElem_cons_succ, List.getElem_cons_zero, List.setIfInBounds_toArray, List.set_cons_zero, List.set_cons_succ]
              refine AnyBut.takeS (i := 3) (v := undef) rfl (by kernel_rfl) (Nat.le_of_eq (by kernel_rfl)) (by kernel_rfl) (by kernel_rfl) (fun _ _ _ h => h) (HS16.out) (Or.inr ⟨by kernel_rfl, rfl⟩) ?r249
              try simp only [Act.put, List.getElem_toArray, List.getElem_cons_succ, List.getElem_cons_zero, List.setIfInBounds_toArray, List.set_cons_zero, List.set_cons_succ]
              refine AnyBut.takeS (i := 4) (v := undef) rfl (by kernel_rfl) (Nat.le_of_eq (by kernel_rfl)) (by kernel_rfl) (by kernel_rfl) (fun _ _ _ h => h) (HS16.out) (Or.inr ⟨by kernel_rfl, rfl⟩) ?r250
              try simp only [Act.put, List.getElem_toArray, List.getElem_cons_succ, List.getElem_cons_zero, List.setIfInBounds_toArray, List.set_cons_zero, List.set_cons_succ]
              refine AnyBut.takeS (i := 5) (v := undef) rfl (by kernel_rfl) (Nat.le_of_eq (by kernel_rfl)) (by kernel_rfl) (by kernel_rfl) (fun _ _ _ h => h) (HS16.out) (Or.inr ⟨by kernel_rfl, rfl⟩) ?r251
              try simp only [Act.put, List.getElem_toArray, List.getElem_cons_succ, List.getElem_cons_zero, List.setIfInBounds_toArray, List.set_cons_zero, List.set_cons_succ]
              refine AnyBut.takeS (i := 6) (v := undef) rfl (by kernel_rfl) (Nat.le_of_eq (by kernel_rfl)) (by kernel_rfl) (by kernel_rfl) (fun _ _ _ h => h) (HS16.out) (Or.inr ⟨by kernel_rfl, rfl⟩) ?r252
              try simp only [Act.put, List.getElem_toArray, List.getElem_cons_succ, List.getElem_cons_zero, List.setIfInBounds_toArray, List.set_cons_zero, List.set_cons_succ]
              refine AnyBut.takeS (i := 7) (v := undef) rfl (by kernel_rfl) (Nat.le_of_eq (by kernel_rfl)) (by kernel_rfl) (by kernel_rfl) (fun _ _ _ h => h) (HS16.out) (Or.inr ⟨by kernel_rfl, rfl⟩) ?r253
              try simp only [Act.put, List.getElem_toArray, List.getElem_cons_succ, List.getElem_cons_zero, List.setIfInBounds_toArray, List.set_cons_zero, List.set_cons_succ]
              refine AnyBut.takeS (i := 8) (v := undef) rfl (by kernel_rfl) (Nat.le_of_eq (by kernel_rfl)) (by kernel_rfl) (by kernel_rfl) (fun _ _ _ h => h) (HS16.out) (Or.inr ⟨by kernel_rfl, rfl⟩) ?r254
              try simp only [Act.put, List.getElem_toArray, List.getElem_cons_succ, List.getElem_cons_zero, List.setIfInBounds_toArray, List.set_cons_zero, List.set_cons_succ]
              refine AnyBut.takeS (i := 9) (v := undef) rfl (by kernel_rfl) (Nat.le_of_eq (by kernel_rfl)) (by kernel_rfl) (by kernel_rfl) (fun _ _ _ h => h) (HS16.out) (Or.inr ⟨by kernel_rfl, rfl⟩) ?r255
              try simp only [Act.put, List.getElem_toArray, List.getElem_cons_succ, List.getElem_cons_zero, List.setIfInBounds_toArray, List.set_cons_zero, List.set_cons_succ]
              refine AnyBut.takeS (i := 10) (v := undef) rfl (by kernel_rfl) (Nat.le_of_eq (by kernel_rfl)) (by kernel_rfl) (by kernel_rfl) (fun _ _ _ h => h) (HS16.out) (Or.inr ⟨by kernel_rfl, rfl⟩) ?r256
              try simp only [Act.put, List.getElem_toArray, List.getElem_cons_succ, List.getElem_cons_zero, List.setIfInBounds_toArray, List.set_cons_zero, List.set_cons_succ]
              refine AnyBut.takeS (i := 11) (v := undef) rfl (by kernel_rfl) (Nat.le_of_eq (by kernel_rfl)) (by kernel_rfl) (by kernel_rfl) (fun _ _ _ h => h) (HS16.out) (Or.inr ⟨by kernel_rfl, rfl⟩) ?r257
              try simp only [Act.put, List.getElem_toArray, List.getElem_cons_succ, List.getElem_cons_zero, List.setIfInBounds_toArray, List.set_cons_zero, List.set_cons_succ]
              refine AnyBut.takeS (i := 12) (v := ?v258) rfl (by kernel_rfl) (Nat.le_of_eq (by kernel_rfl)) (by kernel_rfl) (by kernel_rfl) (fun _ _ _ h => h) (HS16.out) (Or.inl ⟨by kernel_rfl, ?hy258⟩) ?r258
              case hy258 =>
                intro w hSw
                try dsimp only at hSw
                go_simp
                first | (obtain ⟨z0, z1, z2⟩ := hSw; go_simp) | skip
                try with_reducible rfl
              try simp only [Act.put, List.getElem_toArray, List.getElem_cons_succ, List.getElem_cons_zero, List.setIfInBounds_toArray, List.set_cons_zero, List.set_cons_succ]
              refine AnyBut.takeS (i := 13) (v := ?v259) rfl (by kernel_rfl) (Nat.le_of_eq (by kernel_rfl)) (by kernel_rfl) (by kernel_rfl) (fun _ _ _ h => h) (HS16.out) (Or.inl ⟨by kernel_rfl, ?hy259⟩) ?r259
              case hy259 =>
                intro w hSw
                try dsimp only at hSw
                go_simp
                first | (obtain ⟨z0, z1, z2⟩ := hSw; go_simp) | skip
                try with_reducible rfl
              try simp only [Act.put, List.getElem_toArray, List.getElem_cons_succ, List.getElem_cons_zero, List.setIfInBounds_toArray, List.set_cons_zero, List.set_cons_succ]
              refine AnyBut.takeS (i := 14) (v := ?v260) rfl (by kernel_rfl) (Nat.le_of_eq (by kernel_rfl)) (by kernel_rfl) (by kernel_rfl) (fun _ _ _ h => h) (HS16.out) (Or.inl ⟨by kernel_rfl, ?hy260⟩) ?r260
              case hy260 =>
                intro w hSw
                try dsimp only at hSw
                go_simp
                first | (obtain ⟨z0, z1, z2⟩ := hSw; go_simp) | skip
                try with_reducible rfl
              try simp only [Act.put, List.getElem_toArray, List.getElem_cons_succ, List.getElem_cons_zero, List.setIfInBounds_toArray, List.set_cons_zero, List.set_cons_succ]
              refine AnyBut.takeS (i := 15) (v := ?v261) rfl (by kernel_rfl) (Nat.le_of_eq (by kernel_rfl)) (by kernel_rfl) (by kernel_rfl) (fun _ _ _ h => h) (HS16.out) (Or.inl ⟨by kernel_rfl, ?hy261⟩) ?r261
              case hy261 =>
                intro w hSw
                try dsimp only at hSw
                go_simp
                first | (obtain ⟨z0, z1, z2⟩ := hSw; go_simp) | skip
                try with_reducible rfl
              try simp only [Act.put, List.getElem_toArray, List.getElem_cons_succ, List.getElem_cons_zero, List.setIfInBounds_toArray, List.set_cons_zero, List.set_cons_succ]
              refine AnyBut.takeS (i := 16) (v := ?v262) rfl (by kernel_rfl) (Nat.le_of_eq (by kernel_rfl)) (by kernel_rfl) (by kernel_rfl) (fun _ _ _ h => h) (HS16.out) (Or.inl ⟨by kernel_rfl, ?hy262⟩) ?r262
              case hy262 =>
                intro w hSw
                try dsimp only at hSw
                go_simp
                first | (obtain ⟨z0, z1, z2⟩ := hSw; go_simp) | skip
                try with_reducible rfl
              try simp only [Act.put, List.getElem_toArray, List.getElem_cons_succ, List.getElem_cons_zero, List.setIfInBounds_toArray, List.set_cons_zero, List.set_cons_succ]
              refine AnyBut.takeS (i := 17) (v := ?v263) rfl (by kernel_rfl) (Nat.le_of_eq (by kernel_rfl)) (by kernel_rfl) (by kernel_rfl) (fun _ _ _ h => h) (HS16.out) (Or.inl ⟨by kernel_rfl, ?hy263⟩) ?r263
              case hy263 =>
                intro w hSw
                try dsimp only at hSw
                go_simp
                first | (obtain ⟨z0, z1, z2⟩ := hSw; go_simp) | skip
                try with_reducible rfl
              try simp only [Act.put, List.getElem_toArray, List.getElem_cons_succ, List.getElem_cons_zero, List.setIfInBounds_toArray, List.set_cons_zero, List.set_cons_succ]
              refine AnyBut.takeS (i := 18) (v := ?v264) rfl (by kernel_rfl) (Nat.le_of_eq (by kernel_rfl)) (by kernel_rfl) (by kernel_rfl) (fun _ _ _ h => h) (HS16.out) (Or.inl ⟨by kernel_rfl, ?hy264⟩) ?r264
              case hy264 =>
                intro w hSw
                try dsimp only at hSw
                go_simp
                first | (obtain ⟨z0, z1, z2⟩ := hSw; go_simp) | skip
                try with_reducible rfl
              try simp only [Act.put, List.getElem_toArray, List.getElem_cons_succ, List.getElem_cons_zero, List.setIfInBounds_toArray, List.set_cons_zero, List.set_cons_succ]
              refine AnyBut.takeS (i := 19) (v := ?v265) rfl (by kernel_rfl) (Nat.le_of_eq (by kernel_rfl)) (by kernel_rfl) (by kernel_rfl) (fun _ _ _ h => h) (HS16.out) (Or.inl ⟨by kernel_rfl, ?hy265⟩) ?r265
              case hy265 =>
                intro w hSw
                try dsimp only at hSw
                go_simp
                first | (obtain ⟨z0, z1, z2⟩ := hSw; go_simp) | skip
                try with_reducible rfl
              try simp only [Act.put, List.getElem_toArray, List.getElem_cons_succ, List.getElem_cons_zero, List.setIfInBounds_toArray, List.set_cons_zero, List.set_cons_succ]
              refine AnyBut.takeS (i := 20) (v := ?v266) rfl (by kernel_rfl) (Nat.le_of_eq (by kernel_rfl)) (by kernel_rfl) (by kernel_rfl) (fun _ _ _ h => h) (HS16.out) (Or.inl ⟨by kernel_rfl, ?hy266⟩) ?r266
              case hy266 =>
                intro w hSw
                try dsimp only at hSw
                go_simp
                first | (obtain ⟨z0, z1, z2⟩ := hSw; go_simp) | skip
                try with_reducible rfl
              try simp only [Act.put, List.getElem_toArray, List.getElem_cons_succ, List.getElem_cons_zero, List.setIfInBounds_toArray, List.set_cons_zero, List.set_cons_succ]
              refine AnyBut.takeS (i := 21) (v := ?v267) rfl (by kernel_rfl) (Nat.le_of_eq (by kernel_rfl)) (by kernel_rfl) (by kernel_rfl) (fun _ _ _ h => h) (HS16.out) (Or.inl ⟨by kernel_rfl, ?hy267⟩) ?r267
              case hy267 =>
                intro w hSw
                try dsimp only at hSw
                go_simp
                first | (obtain ⟨z0, z1, z2⟩ := hSw; go_simp) | skip
                try with_reducible rfl
              try simp only [Act.put, List.getElem_toArray, List.getElem_cons_succ, List.getElem_cons_zero, List.setIfInBounds_toArray, List.set_cons_zero, List.set_cons_succ]
              refine AnyBut.takeS (i := 22) (v := ?v268) rfl (by kernel_rfl) (Nat.le_of_eq (by kernel_rfl)) (by kernel_rfl) (by kernel_rfl) (fun _ _ _ h => h) (HS16.out) (Or.inl ⟨by kernel_rfl, ?hy268⟩) ?r268
              case hy268 =>
                intro w hSw
                try dsimp only at hSw
                go_simp
                first | (obtain ⟨z0, z1, z2⟩ := hSw; go_simp) | skip
                try with_reducible rfl
              try simp only [Act.put, List.getElem_toArray, List.getElem_cons_succ, List.getElem_cons_zero, List.setIfInBounds_toArray, List.set_cons_zero, List.set_cons_succ]
              refine AnyBut.takeS (i := 23) (v := ?v269) rfl (by kernel_rfl) (Nat.le_of_eq (by kernel_rfl)) (by kernel_rfl) (by kernel_rfl) (fun _ _ _ h => h) (HS16.out) (Or.inl ⟨by kernel_rfl, ?hy269⟩) ?r269
              case hy269 =>
                intro w hSw
                try dsimp only at hSw
                go_simp
                first | (obtain ⟨z0, z1, z2⟩ := hSw; go_simp) | skip
                try with_reducible rfl
              try simp only [Act.put, List.getElem_toArray, List.getElem_cons_succ, List.getElem_cons_zero, List.setIfInBounds_toArray, List.set_cons_zero, List.set_cons_succ]
              refine AnyBut.takeS (i := 24) (v := ?v270) rfl (by kernel_rfl) (Nat.le_of_eq (by kernel_rfl)) (by kernel_rfl) (by kernel_rfl) (fun _ _ _ h => h) (HS16.out) (Or.inl ⟨by kernel_rfl, ?hy270⟩) ?r270
              case hy270 =>
                intro w hSw
                try dsimp only at hSw
                go_simp
                first | (obtain ⟨z0, z1, z2⟩ := hSw; go_simp) | skip
                try with_reducible rfl
              try simp only [Act.put, List.getElem_toArray, List.getElem_cons_succ, List.getElem_cons_zero, List.setIfInBounds_toArray, List.set_cons_zero, List.set_cons_succ]
              refine AnyBut.takeS (i := 25) (v := ?v271) rfl (by kernel_rfl) (Nat.le_of_eq (by kernel_rfl)) (by kernel_rfl) (by kernel_rfl) (fun _ _ _ h => h) (HS16.out) (Or.inl ⟨by kernel_rfl, ?hy271⟩) ?r271
              case hy271 =>
                intro w hSw
                try dsimp only at hSw
                go_simp
                first | (obtain ⟨z0, z1, z2⟩ := hSw; go_simp) | skip
                try with_reducible rfl
              try simp only [Act.put, List.getElem_toArray, List.getElem_cons_succ, List.getElem_cons_zero, List.setIfInBounds_toArray, List.set_cons_zero, List.set_cons_succ]
              refine AnyBut.takeS (i := 26) (v := ?v272) rfl (by kernel_rfl) (Nat.le_of_eq (by kernel_rfl)) (by kernel_rfl) (by kernel_rfl) (fun _ _ _ h => h) (HS16.out) (Or.inl ⟨by kernel_rfl, ?hy272⟩) ?r272
              case hy272 =>
                intro w hSw
                try dsimp only at hSw
                go_simp
                first | (obtain ⟨z0, z1, z2⟩ := hSw; go_simp) | skip
                try with_reducible rfl
              try simp only [Act.put, List.getElem_toArray, List.getElem_cons_succ, List.getElem_cons_zero, List.setIfInBounds_toArray, List.set_cons_zero, List.set_cons_succ]
              refine AnyBut.takeS (i := 27) (v := ?v273) rfl (by kernel_rfl) (Nat.le_of_eq (by kernel_rfl)) (by kernel_rfl) (by kernel_rfl) (fun _ _ _ h => h) (HS16.out) (Or.inl ⟨by kernel_rfl, ?hy273⟩) ?r273
              case hy273 =>
                intro w hSw
                try dsimp only at hSw
                go_simp
                first | (obtain ⟨z0, z1, z2⟩ := hSw; go_simp) | skip
                try with_reducible rfl
              try simp only [Act.put, List.getElem_toArray, List.getElem_cons_succ, List.getElem_cons_zero, List.setIfInBounds_toArray, List.set_cons_zero, List.set_cons_succ]
              refine AnyBut.takeS (i := 28) (v := ?v274) rfl (by kernel_rfl) (Nat.le_of_eq (by kernel_rfl)) (by kernel_rfl) (by kernel_rfl) (fun _ _ _ h => h) (HS16.out) (Or.inl ⟨by kernel_rfl, ?hy274⟩) ?r274
              case hy274 =>
                intro w hSw
                try dsimp only at hSw
                go_simp
                first | (obtain ⟨z0, z1, z2⟩ := hSw; go_simp) | skip
                try with_reducible rfl
              try simp only [Act.put, List.getElem_toArray, List.getElem_cons_succ, List.getElem_cons_zero, List.setIfInBounds_toArray, List.set_cons_zero, List.set_cons_succ]
              refine AnyBut.takeS (i := 29) (v := ?v275) rfl (by kernel_rfl) (Nat.le_of_eq (by kernel_rfl)) (by kernel_rfl) (by kernel_rfl) (fun _ _ _ h => h) (HS16.out) (Or.inl ⟨by kernel_rfl, ?hy275⟩) ?r275
              case hy275 =>
                intro w hSw
                try dsimp only at hSw
                go_simp
                first | (obtain ⟨z0, z1, z2⟩ := hSw; go_simp) | skip
                try with_reducible rfl
              try simp only [Act.put, List.getElem_toArray, List.getElem_cons_succ, List.getElem_cons_zero, List.setIfInBounds_toArray, List.set_cons_zero, List.set_cons_succ]
              refine AnyBut.takeS (i := 30) (v := ?v276) rfl (by kernel_rfl) (Nat.le_of_eq (by kernel_rfl)) (by kernel_rfl) (by kernel_rfl) (fun _ _ _ h => h) (HS16.out) (Or.inl ⟨by kernel_rfl, ?hy276⟩) ?r276
              case hy276 =>
                intro w hSw
                try dsimp only at hSw
                go_simp
                first | (obtain ⟨z0, z1, z2⟩ := hSw; go_simp) | skip
                try with_reducible rfl
              try simp only [Act.put, List.getElem_toArray, List.getElem_cons_succ, List.getElem_cons_zero, List.setIfInBounds_toArray, List.set_cons_zero, List.set_cons_succ]
              refine AnyBut.takeS (i := 31) (v := ?v277) rfl (by kernel_rfl) (Nat.le_of_eq (by kernel_rfl)) (by kernel_rfl) (by kernel_rfl) (fun _ _ _ h => h) (HS16.out) (Or.inl ⟨by kernel_rfl, ?hy277⟩) ?r277
              case hy277 =>
                intro w hSw
                try dsimp only at hSw
                go_simp
                first | (obtain ⟨z0, z1, z2⟩ := hSw; go_simp) | skip
                try with_reducible rfl
              try simp only [Act.put, List.getElem_toArray, List.getElem_cons_succ, List.getElem_cons_zero, List.setIfInBounds_toArray, List.set_cons_zero, List.set_cons_succ]
              refine AnyBut.takeS (i := 32) (v := ?v278) rfl (by kernel_rfl) (Nat.le_of_eq (by kernel_rfl)) (by kernel_rfl) (by kernel_rfl) (fun _ _ _ h => h) (HS16.out) (Or.inl ⟨by kernel_rfl, ?hy278⟩) ?r278
              case hy278 =>
                intro w hSw
                try dsimp only at hSw
                go_simp
                first | (obtain ⟨z0, z1, z2⟩ := hSw; go_simp) | skip
                try with_reducible rfl
              try simp only [Act.put, List.getElem_toArray, List.getElem_cons_succ, List.getElem_cons_zero, List.setIfInBounds_toArray, List.set_cons_zero, List.set_cons_succ]
              refine AnyBut.takeS (i := 33) (v := ?v279) rfl (by kernel_rfl) (Nat.le_of_eq (by kernel_rfl)) (by kernel_rfl) (by kernel_rfl) (fun _ _ _ h => h) (HS16.out) (Or.inl ⟨by kernel_rfl, ?hy279⟩) ?r279
              case hy279 =>
                intro w hSw
                try dsimp only at hSw
                go_simp
                first | (obtain ⟨z0, z1, z2⟩ := hSw; go_simp) | skip
                try with_reducible rfl
              try simp only [Act.put, List.getElem_toArray, List.getElem_cons_succ, List.getElem_cons_zero, List.setIfInBounds_toArray, List.set_cons_zero, List.set_cons_succ]
              refine AnyBut.takeS (i := 34) (v := ?v280) rfl (by kernel_rfl) (Nat.le_of_eq (by kernel_rfl)) (by kernel_rfl) (by kernel_rfl) (fun _ _ _ h => h) (HS16.out) (Or.inl ⟨by kernel_rfl, ?hy280⟩) ?r280
              case hy280 =>
                intro w hSw
                try dsimp only at hSw
                go_simp
                first | (obtain ⟨z0, z1, z2⟩ := hSw; go_simp) | skip
                try with_reducible rfl
              try simp only [Act.put, List.getElem_toArray, List.getElem_cons_succ, List.getElem_cons_zero, List.setIfInBounds_toArray, List.set_cons_zero, List.set_cons_succ]
              refine AnyBut.takeS (i := 35) (v := ?v281) rfl (by kernel_rfl) (Nat.le_of_eq (by kernel_rfl)) (by kernel_rfl) (by kernel_rfl) (fun _ _ _ h => h) (HS16.out) (Or.inl ⟨by kernel_rfl, ?hy281⟩) ?r281
              case hy281 =>
                intro w hSw
                try dsimp only at hSw
                go_simp
                first | (obtain ⟨z0, z1, z2⟩ := hSw; go_simp) | skip
                try with_reducible rfl
              try simp only [Act.put, List.getElem_toArray, List.getElem_cons_succ, List.getElem_cons_zero, List.setIfInBounds_toArray, List.set_cons_zero, List.set_cons_succ]
              refine AnyBut.takeS (i := 36) (v := ?v282) rfl (by kernel_rfl) (Nat.le_of_eq (by kernel_rfl)) (by kernel_rfl) (by kernel_rfl) (fun _ _ _ h => h) (HS16.out) (Or.inl ⟨by kernel_rfl, ?hy282⟩) ?r282
              case hy282 =>
                intro w hSw
                try dsimp only at hSw
                go_simp
                first | (obtain ⟨z0, z1, z2⟩ := hSw; go_simp) | skip
                try with_reducible rfl
              try simp only [Act.put, List.getElem_toArray, List.getElem_cons_succ, List.getElem_cons_zero, List.setIfInBounds_toArray, List.set_cons_zero, List.set_cons_succ]
              refine AnyBut.done (by kernel_rfl) ?_
              clear qx ql
              go_upto_region 18 with fail
              have HK6e : Hid (Kept (fun _ => False) w5 w6.drew.drew) := Lib.hid (HK6d.out.trans (Kept.refl _ _).drew)
              have HS18 : Hid ((fun w' => w'.cell? ⟨g8, 16, none⟩ = some (.int .i64 10) ∧ w'.cell? ⟨gi, oi + i * 17 + 5, none⟩ = some (.int .i64 xs) ∧ w'.cell? ⟨gi, oi + j * 17 + 6, none⟩ = some (.int .i64 pt) ∧ w'.cell? ⟨gi, oi + j * 17 + 5, none⟩ = some (.int .i64 ps)) w6.drew.drew) := Lib.hid ⟨(HSB.out _ HK6e.out).2.1.2.2, (HIW.out _ (HK5.out.trans HK6e.out)).1, HPI.out _ (HK5.out.trans HK6e.out), HPT.out _ (HK5.out.trans HK6e.out)⟩
              refine AnyBut.start (S := fun w' => w'.cell? ⟨g8, 16, none⟩ = some (.int .i64 10) ∧ w'.cell? ⟨gi, oi + i * 17 + 5, none⟩ = some (.int .i64 xs) ∧ w'.cell? ⟨gi, oi + j * 17 + 6, none⟩ = some (.int .i64 pt) ∧ w'.cell? ⟨gi, oi + j * 17 + 5, none⟩ = some (.int .i64 ps)) (k := 32) (by kernel_rfl) ?_
              refine AnyBut.takeS (i := 0) (v := ?v283) rfl (by kernel_rfl) (Nat.le_of_eq (by kernel_rfl)) (by kernel_rfl) (by kernel_rfl) (fun _ _ _ h => h) (HS18.out) (Or.inl ⟨by kernel_rfl, ?hy283⟩) ?r283
              case hy283 =>
                intro w hSw
                try dsimp only at hSw
                go_simp
                first | (obtain ⟨z0, z1, z2, z3⟩ := hSw; go_simp) | skip
                try with_reducible rfl
              try simp only [Act.put, List.getElem_toArray, List.getElem_cons_zero, List.setIfInBounds_toArray, List.set_cons_zero, List.set_cons_succ]
              refine AnyBut.takeS (i := 1) (v := ?v284) rfl (by kernel_rfl) (Nat.le_of_eq (by kernel_rfl)) (by kernel_rfl) (by kernel_rfl) (fun _ _ _ h => h) (HS18.out) (Or.inl ⟨by kernel_rfl, ?hy284⟩) ?r284
              case hy284 =>
                intro w hSw
                try dsimp only at hSw
                go_simp
                first | (obtain ⟨z0, z1, z2, z3⟩ := hSw; go_simp) | skip
                try with_reducible rfl
              try simp only [Act.put, List.getElem_toArray, List.getElem_cons_succ, List.getElem_cons_zero, List.setIfInBounds_toArray, List.set_cons_zero, List.set_cons_succ]
              refine AnyBut.takeS (i := 2) (v := ?v285) rfl (by kernel_rfl) (Nat.le_of_eq (by kernel_rfl)) (by kernel_rfl) (by kernel_rfl) (fun _ _ _ h => h) (HS18.out) (Or.inl ⟨by kernel_rfl, ?hy285⟩) ?r285
              case hy285 =>
                intro w hSw
                try dsimp only at hSw
                go_simp
                first | (obtain ⟨z0, z1, z2, z3⟩ := hSw; go_simp) | skip
                try with_reducible rfl
              try simp only [Act.put, List.getElem_toArray, List.getElem_cons_succ, List.getElem_cons_zero, List.setIfInBounds_toArray, List.set_cons_zero, List.set_cons_succ]
              refine AnyBut.takeS (i := 3) (v := ?v286) rfl (by kernel_rfl) (Nat.le_of_eq (by kernel_rfl)) (by kernel_rfl) (by kernel_rfl) (fun _ _ _ h => h) (HS18.out) (Or.inl ⟨by kernel_rfl, ?hy286⟩) ?r286
              case hy286 =>
                intro w hSw
                try dsimp only at hSw
                go_simp
                first | (obtain ⟨z0, z1, z2, z3⟩ := hSw; go_simp) | skip
                try with_reducible rfl
              try simp only [Act.put, List.getElem_toArray, List.getElem_cons_succ, List.getElem_cons_zero, List.setIfInBounds_toArray, List.set_cons_zero, List.set_cons_succ]
              refine AnyBut.takeS (i := 4) (v := ?v287) rfl (by kernel_rfl) (Nat.le_of_eq (by kernel_rfl)) (by kernel_rfl) (by kernel_rfl) (fun _ _ _ h => h) (HS18.out) (Or.inl ⟨by kernel_rfl, ?hy287⟩) ?r287
              case hy287 =>
                intro w hSw
                try dsimp only at hSw
                go_simp
                first | (obtain ⟨z0, z1, z2, z3⟩ := hSw; go_simp) | skip
                try with_reducible rfl
              try simp only [Act.put, List.getElem_toArray, List.getElem_cons_succ, List.getElem_cons_zero, List.setIfInBounds_toArray, List.set_cons_zero, List.set_cons_succ]
              refine AnyBut.takeS (i := 5) (v := ?v288) rfl (by kernel_rfl) (Nat.le_of_eq (by kernel_rfl)) (by kernel_rfl) (by kernel_rfl) (fun _ _ _ h => h) (HS18.out) (Or.inl ⟨by kernel_rfl, ?hy288⟩) ?r288
              case hy288 =>
                intro w hSw
                try dsimp only at hSw
                go_simp
                first | (obtain ⟨z0, z1, z2, z3⟩ := hSw; go_simp) | skip
                try with_reducible rfl
              try simp only [Act.put, List.getElem_toArray, List.getElem_cons_succ, List.getElem_cons_zero, List.setIfInBounds_toArray, List.set_cons_zero, List.set_cons_succ]
              refine AnyBut.takeS (i := 6) (v := ?v289) rfl (by kernel_rfl) (Nat.le_of_eq (by kernel_rfl)) (by kernel_rfl) (by kernel_rfl) (fun _ _ _ h => h) (HS18.out) (Or.inl ⟨by kernel_rfl, ?hy289⟩) ?r289
              case hy289 =>
                intro w hSw
                try dsimp only at hSw
                go_simp
                first | (obtain ⟨z0, z1, z2, z3⟩ := hSw; go_simp) | skip
                try with_reducible rfl
              try simp only [Act.put, List.getElem_toArray, List.getElem_cons_succ, List.getElem_cons_zero, List.setIfInBounds_toArray, List.set_cons_zero, List.set_cons_succ]
              refine AnyBut.takeS (i := 7) (v := ?v290) rfl (by kernel_rfl) (Nat.le_of_eq (by kernel_rfl)) (by kernel_rfl) (by kernel_rfl) (fun _ _ _ h => h) (HS18.out) (Or.inl ⟨by kernel_rfl, ?hy290⟩) ?r290
              case hy290 =>
                intro w hSw
                try dsimp only at hSw
                go_simp
                first | (obtain ⟨z0, z1, z2, z3⟩ := hSw; go_simp) | skip
                try with_reducible rfl
              try simp only [Act.put, List.getElem_toArray, List.getElem_cons_succ, List.getElem_cons_zero, List.setIfInBounds_toArray, List.set_cons_zero, List.set_cons_succ]
              refine AnyBut.takeS (i := 8) (v := ?v291) rfl (by kernel_rfl) (Nat.le_of_eq (by kernel_rfl)) (by kernel_rfl) (by kernel_rfl) (fun _ _ _ h => h) (HS18.out) (Or.inl ⟨by kernel_rfl, ?hy291⟩) ?r291
              case hy291 =>
                intro w hSw
                try dsimp only at hSw
                go_simp
                first | (obtain ⟨z0, z1, z2, z3⟩ := hSw; go_simp) | skip
                try with_reducible rfl
              try simp only [Act.put, List.getElem_toArray, List.getElem_cons_succ, List.getElem_cons_zero, List.setIfInBounds_toArray, List.set_cons_zero, List.set_cons_succ]
              refine AnyBut.takeS (i := 9) (v := ?v292) rfl (by kernel_rfl) (Nat.le_of_eq (by kernel_rfl)) (by kernel_rfl) (by kernel_rfl) (fun _ _ _ h => h) (HS18.out) (Or.inl ⟨by kernel_rfl, ?hy292⟩) ?r292
              case hy292 =>
                intro w hSw
                try dsimp only at hSw
                go_simp
                first | (obtain ⟨z0, z1, z2, z3⟩ := hSw; go_simp) | skip
                try with_reducible rfl
              try simp only [Act.put, List.getElem_toArray, List.getElem_cons_succ, List.getElem_cons_zero, List.setIfInBounds_toArray, List.set_cons_zero, List.set_cons_succ]
              refine AnyBut.takeS (i := 10) (v := ?v293) rfl (by kernel_rfl) (Nat.le_of_eq (by kernel_rfl)) (by kernel_rfl) (by kernel_rfl) (fun _ _ _ h => h) (HS18.out) (Or.inl ⟨by kernel_rfl, ?hy293⟩) ?r293
              case hy293 =>
                intro w hSw
                try dsimp only at hSw
                go_simp
                first | (obtain ⟨z0, z1, z2, z3⟩ := hSw; go_simp) | skip
                try with_reducible rfl
              try simp only [Act.put, List.getElem_toArray, List.getElem_cons_succ, List.getElem_cons_zero, List.setIfInBounds_toArray, List.set_cons_zero, List.set_cons_succ]
              refine AnyBut.takeS (i := 11) (v := ?v294) rfl (by kernel_rfl) (Nat.le_of_eq (by kernel_rfl)) (by kernel_rfl) (by kernel_rfl) (fun _ _ _ h => h) (HS18.out) (Or.inl ⟨by kernel_rfl, ?hy294⟩) ?r294
              case hy294 =>
                intro w hSw
                try dsimp only at hSw
                go_simp
                first | (obtain ⟨z0, z1, z2, z3⟩ := hSw; go_simp) | skip
                try with_reducible rfl
              try simp only [Act.put, List.getElem_toArray, List.getElem_cons_succ, List.getElem_cons_zero, List.setIfInBounds_toArray, List.set_cons_zero, List.set_cons_succ]
              refine AnyBut.takeS (i := 12) (v := ?v295) rfl (by kernel_rfl) (Nat.le_of_eq (by kernel_rfl)) (by kernel_rfl) (by kernel_rfl) (fun _ _ _ h => h) (HS18.out) (Or.inl ⟨by kernel_rfl, ?hy295⟩) ?r295
              case hy295 =>
                intro w hSw
                try dsimp only at hSw
                go_simp
                first | (obtain ⟨z0, z1, z2, z3⟩ := hSw; go_simp) | skip
                try with_reducible rfl
              try simp only [Act.put, List.getElem_toArray, List.getElem_cons_succ, List.getElem_cons_zero, List.setIfInBounds_toArray, List.set_cons_zero, List.set_cons_succ]
              refine AnyBut.takeS (i := 13) (v := ?v296) rfl (by kernel_rfl) (Nat.le_of_eq (by kernel_rfl)) (by kernel_rfl) (by kernel_rfl) (fun _ _ _ h => h) (HS18.out) (Or.inl ⟨by kernel_rfl, ?hy296⟩) ?r296
              case hy296 =>
                intro w hSw
                try dsimp only at hSw
                go_simp
                first | (obtain ⟨z0, z1, z2, z3⟩ := hSw; go_simp) | skip
                try with_reducible rfl
              try simp only [Act.put, List.getElem_toArray, List.getElem_cons_succ, List.getElem_cons_zero, List.setIfInBounds_toArray, List.set_cons_zero, List.set_cons_succ]
              refine AnyBut.takeS (i := 14) (v := ?v297) rfl (by kernel_rfl) (Nat.le_of_eq (by kernel_rfl)) (by kernel_rfl) (by kernel_rfl) (fun _ _ _ h => h) (HS18.out) (Or.inl ⟨by kernel_rfl, ?hy297⟩) ?r297
              case hy297 =>
                intro w hSw
                try dsimp only at hSw
                go_simp
                first | (obtain ⟨z0, z1, z2, z3⟩ := hSw; go_simp) | skip
                try with_reducible rfl
              try simp only [Act.put, List.getElem_toArray, List.getElem_cons_succ, List.getElem_cons_zero, List.setIfInBounds_toArray, List.set_cons_zero, List.set_cons_succ]
              refine AnyBut.takeS (i := 15) (v := ?v298) rfl (by kernel_rfl) (Nat.le_of_eq (by kernel_rfl)) (by kernel_rfl) (by kernel_rfl) (fun _ _ _ h => h) (HS18.out) (Or.inl ⟨by kernel_rfl, ?hy298⟩) ?r298
              case hy298 =>
                intro w hSw
                try dsimp only at hSw
                go_simp
                first | (obtain ⟨z0, z1, z2, z3⟩ := hSw; go_simp) | skip
                try with_reducible rfl
              try simp only [Act.put, List.getElem_toArray, List.getElem_cons_succ, List.getElem_cons_zero, List.setIfInBounds_toArray, List.set_cons_zero, List.set_cons_succ]
              refine AnyBut.takeS (i := 16) (v := ?v299) rfl (by kernel_rfl) (Nat.le_of_eq (by kernel_rfl)) (by kernel_rfl) (by kernel_rfl) (fun _ _ _ h => h) (HS18.out) (Or.inl ⟨by kernel_rfl, ?hy299⟩) ?r299
              case hy299 =>
                intro w hSw
                try dsimp only at hSw
                go_simp
                first | (obtain ⟨z0, z1, z2, z3⟩ := hSw; go_simp) | skip
                try with_reducible rfl
              try simp only [Act.put, List.getElem_toArray, List.getElem_cons_succ, List.getElem_cons_zero, List.setIfInBounds_toArray, List.set_cons_zero, List.set_cons_succ]
              refine AnyBut.takeS (i := 17) (v := ?v300) rfl (by kernel_rfl) (Nat.le_of_eq (by kernel_rfl)) (by kernel_rfl) (by kernel_rfl) (fun _ _ _ h => h) (HS18.out) (Or.inl ⟨by kernel_rfl, ?hy300⟩) ?r300
              case hy300 =>
                intro w hSw
                try dsimp only at hSw
                go_simp
                first | (obtain ⟨z0, z1, z2, z3⟩ := hSw; go_simp) | skip
                try with_reducible rfl
              try simp only [Act.put, List.getElem_toArray, List.getElem_cons_succ, List.getElem_cons_zero, List.setIfInBounds_toArray, List.set_cons_zero, List.set_cons_succ]
              refine AnyBut.takeS (i := 18) (v := ?v301) rfl (by kernel_rfl) (Nat.le_of_eq (by kernel_rfl)) (by kernel_rfl) (by kernel_rfl) (fun _ _ _ h => h) (HS18.out) (Or.inl ⟨by kernel_rfl, ?hy301⟩) ?r301
              case hy301 =>
                intro w hSw
                try dsimp only at hSw
                go_simp
                first | (obtain ⟨z0, z1, z2, z3⟩ := hSw; go_simp) | skip
                try with_reducible rfl
              try simp only [Act.put, List.getElem_toArray, List.getElem_cons_succ, List.getElem_cons_zero, List.setIfInBounds_toArray, List.set_cons_zero, List.set_cons_succ]
              refine AnyBut.takeS (i := 19) (v := ?v302) rfl (by kernel_rfl) (Nat.le_of_eq (by kernel_rfl)) (by kernel_rfl) (by kernel_rfl) (fun _ _ _ h => h) (HS18.out) (Or.inl ⟨by kernel_rfl, ?hy302⟩) ?r302
              case hy302 =>
                intro w hSw
                try dsimp only at hSw
                go_simp
                first | (obtain ⟨z0, z1, z2, z3⟩ := hSw; go_simp) | skip
                try with_reducible rfl
              try simp only [Act.put, List.getElem_toArray, List.getElem_cons_succ, List.getElem_cons_zero, List.setIfInBounds_toArray, List.set_cons_zero, List.set_cons_succ]
              refine AnyBut.takeS (i := 20) (v := ?v303) rfl (by kernel_rfl) (Nat.le_of_eq (by kernel_rfl)) (by kernel_rfl) (by kernel_rfl) (fun _ _ _ h => h) (HS18.out) (Or.inl ⟨by kernel_rfl, ?hy303⟩) ?r303
              case hy303 =>
                intro w hSw
                try dsimp only at hSw
                go_simp
                first | (obtain ⟨z0, z1, z2, z3⟩ := hSw; go_simp) | skip
                try with_reducible rfl
              try simp only [Act.put, List.getElem_toArray, List.getElem_cons_succ, List.getElem_cons_zero, List.setIfInBounds_toArray, List.set_cons_zero, List.set_cons_succ]
              refine AnyBut.takeS (i := 21) (v := ?v304) rfl (by kernel_rfl) (Nat.le_of_eq (by kernel_rfl)) (by kernel_rfl) (by kernel_rfl) (fun _ _ _ h => h) (HS18.out) (Or.inl ⟨by kernel_rfl, ?hy304⟩) ?r304
              case hy304 =>
                intro w hSw
                try dsimp only at hSw
                go_simp
                first | (obtain ⟨z0, z1, z2, z3⟩ := hSw; go_simp) | skip
                try with_reducible rfl
              try simp only [Act.put, List.getElem_toArray, List.getElem_cons_succ, List.getElem_cons_zero, List.setIfInBounds_toArray, List.set_cons_zero, List.set_cons_succ]
              refine AnyBut.takeS (i := 22) (v := ?v305) rfl (by kernel_rfl) (Nat.le_of_eq (by kernel_rfl)) (by kernel_rfl) (by kernel_rfl) (fun _ _ _ h => h) (HS18.out) (Or.inl ⟨by kernel_rfl, ?hy305⟩) ?r305
              case hy305 =>
                intro w hSw
                try dsimp only at hSw
                go_simp
                first | (obtain ⟨z0, z1, z2, z3⟩ := hSw; go_simp) | skip
                try with_reducible rfl
              try simp only [Act.put, List.getElem_toArray, List.getElem_cons_succ, List.getElem_cons_zero, List.setIfInBounds_toArray, List.set_cons_zero, List.set_cons_succ]
              refine AnyBut.takeS (i := 23) (v := ?v306) rfl (by kernel_rfl) (Nat.le_of_eq (by kernel_rfl)) (by kernel_rfl) (by kernel_rfl) (fun _ _ _ h => h) (HS18.out) (Or.inl ⟨by kernel_rfl, ?hy306⟩) ?r306
              case hy306 =>
                intro w hSw
                try dsimp only at hSw
                go_simp
                first | (obtain ⟨z0, z1, z2, z3⟩ := hSw; go_simp) | skip
                try with_reducible rfl
              try simp only [Act.put, List.getElem_toArray, List.getElem_cons_succ, List.getElem_cons_zero, List.setIfInBounds_toArray, List.set_cons_zero, List.set_cons_succ]
              refine AnyBut.takeS (i := 24) (v := ?v307) rfl (by kernel_rfl) (Nat.le_of_eq (by kernel_rfl)) (by kernel_rfl) (by kernel_rfl) (fun _ _ _ h => h) (HS18.out) (Or.inl ⟨by kernel_rfl, ?hy307⟩) ?r307
              case hy307 =>
                intro w hSw
                try dsimp only at hSw
                go_simp
                first | (obtain ⟨z0, z1, z2, z3⟩ := hSw; go_simp) | skip
                try with_reducible rfl
              try simp only [Act.put, List.getElem_toArray, List.getElem_cons_succ, List.getElem_cons_zero, List.setIfInBounds_toArray, List.set_cons_zero, List.set_cons_succ]
              refine AnyBut.takeS (i := 25) (v := ?v308) rfl (by kernel_rfl) (Nat.le_of_eq (by kernel_rfl)) (by kernel_rfl) (by kernel_rfl) (fun _ _ _ h => h) (HS18.out) (Or.inl ⟨by kernel_rfl, ?hy308⟩) ?r308
              case hy308 =>
                intro w hSw
                try dsimp only at hSw
                go_simp
                first | (obtain ⟨z0, z1, z2, z3⟩ := hSw; go_simp) | skip
                try with_reducible rfl
              try simp only [Act.put, List.getElem_toArray, List.getElem_cons_succ, List.getElem_cons_zero, List.setIfInBounds_toArray, List.set_cons_zero, List.set_cons_succ]
              refine AnyBut.takeS (i := 26) (v := ?v309) rfl (by kernel_rfl) (Nat.le_of_eq (by kernel_rfl)) (by kernel_rfl) (by kernel_rfl) (fun _ _ _ h => h) (HS18.out) (Or.inl ⟨by kernel_rfl, ?hy309⟩) ?r309
              case hy309 =>
                intro w hSw
                try dsimp only at hSw
                go_simp
                first | (obtain ⟨z0, z1, z2, z3⟩ := hSw; go_simp) | skip
                try with_reducible rfl
              try simp only [Act.put, List.getElem_toArray, List.getElem_cons_succ, List.getElem_cons_zero, List.setIfInBounds_toArray, List.set_cons_zero, List.set_cons_succ]
              refine AnyBut.takeS (i := 27) (v := ?v310) rfl (by kernel_rfl) (Nat.le_of_eq (by kernel_rfl)) (by kernel_rfl) (by kernel_rfl) (fun _ _ _ h => h) (HS18.out) (Or.inl ⟨by kernel_rfl, ?hy310⟩) ?r310
              case hy310 =>
                intro w hSw
                try dsimp only at hSw
                go_simp
                first | (obtain ⟨z0, z1, z2, z3⟩ := hSw; go_simp) | skip
                try with_reducible rfl
              try simp only [Act.put, List.getElem_toArray, List.getElem_cons_succ, List.getElem_cons_zero, List.setIfInBounds_toArray, List.set_cons_zero, List.set_cons_succ]
              refine AnyBut.takeS (i := 28) (v := ?v311) rfl (by kernel_rfl) (Nat.le_of_eq (by kernel_rfl)) (by kernel_rfl) (by kernel_rfl) (fun _ _ _ h => h) (HS18.out) (Or.inl ⟨by kernel_rfl, ?hy311⟩) ?r311
              case hy311 =>
                intro w hSw
                try dsimp only at hSw
                go_simp
                first | (obtain ⟨z0, z1, z2, z3⟩ := hSw; go_simp) | skip
                try with_reducible rfl
              try simp only [Act.put, List.getElem_toArray, List.getElem_cons_succ, List.getElem_cons_zero, List.setIfInBounds_toArray, List.set_cons_zero, List.set_cons_succ]
              refine AnyBut.takeS (i := 29) (v := ?v312) rfl (by kernel_rfl) (Nat.le_of_eq (by kernel_rfl)) (by kernel_rfl) (by kernel_rfl) (fun _ _ _ h => h) (HS18.out) (Or.inl ⟨by kernel_rfl, ?hy312⟩) ?r312
              case hy312 =>
                intro w hSw
                try dsimp only at hSw
                go_simp
                first | (obtain ⟨z0, z1, z2, z3⟩ := hSw; go_simp) | skip
                try with_reducible rfl
              try simp only [Act.put, List.getElem_toArray, List.getElem_cons_succ, List.getElem_cons_zero, List.setIfInBounds_toArray, List.set_cons_zero, List.set_cons_succ]
              refine AnyBut.takeS (i := 30) (v := ?v313) rfl (by kernel_rfl) (Nat.le_of_eq (by kernel_rfl)) (by kernel_rfl) (by kernel_rfl) (fun _ _ _ h => h) (HS18.out) (Or.inl ⟨by kernel_rfl, ?hy313⟩) ?r313
              case hy313 =>
                intro w hSw
                try dsimp only at hSw
                go_simp
                first | (obtain ⟨z0, z1, z2, z3⟩ := hSw; go_simp) | skip
                try with_reducible rfl
              try simp only [Act.put, List.getElem_toArray, List.getElem_cons_succ, List.getElem_cons_zero, List.setIfInBounds_toArray, List.set_cons_zero, List.set_cons_succ]
              refine AnyBut.takeS (i := 31) (v := ?v314) rfl (by kernel_rfl) (Nat.le_of_eq (by kernel_rfl)) (by kernel_rfl) (by kernel_rfl) (fun _ _ _ h => h) (HS18.out) (Or.inl ⟨by kernel_rfl, ?hy314⟩) ?r314
              case hy314 =>
                intro w hSw
                try dsimp only at hSw
                go_simp
                first | (obtain ⟨z0, z1, z2, z3⟩ := hSw; go_simp) | skip
                try with_reducible rfl
              try simp only [Act.put, List.getElem_toArray, List.getElem_cons_succ, List.getElem_cons_zero, List.setIfInBounds_toArray, List.set_cons_zero, List.set_cons_succ]
              refine AnyBut.done (by kernel_rfl) ?_
              clear q14 q15
              go_wp2
              go_roundg (m - (i + 1))
              case measure => have := HD.out; omega
              case rel => exact ⟨i + 1, HD.out, rfl, rfl, HK5.out.trans HK6e.out⟩
          · have HSV : Hid (sv = pt) := Lib.hid (hgo hc)
            have q2 : (fl == 2) = false := by rw [beq_eq_false_iff_ne]; exact fun e => hc (hmv.1 (Or.inl e))
            have q3 : (fl == 10) = false := by rw [beq_eq_false_iff_ne]; exact fun e => hc (hmv.1 (Or.inr e))
            have q14 : decide (pt < xs) = false := decide_eq_false (fun e => hc (hmv.1 (Or.inr (hgp.2 e))))
            have q15 : decide (ps < xs) = false := decide_eq_false hc
            have q10' : (fl == 1) = false := by rw [beq_eq_false_iff_ne]; exact hne1
            clear hmv hgp hown hgo hlt hne1 hc
            go_upto_region 10 with (first | (refine wpList_load_part rfl 37 (.tmp 31) rfl go (oo + i * 17) rfl CR _ (HRR.out wr HKR.out).1 Try.underlying37 rfl HIR2.out.1 ?_) | (refine wpList_store_box rfl 37 (.tmp 9) _ rfl wr _ CR 37 rfl rfl rfl HIR2.out.1 (by rw [HIR2.out.2.1]; rfl) HIR2.out.2.2 ?_; intro w5 hb5 k5; have HB5 : Hid (w5.heap[g8]? = some (.cells CR 37 (0, 0))) := Lib.hid (by rw [HG8.out]; exact hb5); have HK5 := Lib.hid (HKR.out.trans k5); clear hb5 k5))
            rw [← HG8.out]
            obtain ⟨wD, hwd⟩ : ∃ w', w' = w5.drew := ⟨_, rfl⟩
            have qt : (tm != tm) = false := by simp
            refine AnyBut.start (S := fun w' => w'.heap[g8]? = some (.cells CR 37 (0, 0)) ∧ (w'.cell? ⟨g8, 3, none⟩ = some (.int .i64 2) ∧ w'.cell? ⟨g8, 6, none⟩ = some (.int .i64 tm) ∧ w'.cell? ⟨g8, 16, none⟩ = some (.int .i64 fl)) ∧ w'.cell? ⟨gi, oi + i * 17 + 6, none⟩ = some (.int .i64 tm)) (k := 26) (by kernel_rfl) ?_
            rw [← hwd]
            have HKD : Hid (Kept (fun _ => False) w5 wD) := Lib.hid (by rw [hwd]; exact (Kept.refl _ _).drew)
            have HSB : Hid (∀ w', Kept (fun _ => False) w5 w' → (fun w' => w'.heap[g8]? = some (.cells CR 37 (0, 0)) ∧ (w'.cell? ⟨g8, 3, none⟩ = some (.int .i64 2) ∧ w'.cell? ⟨g8, 6, none⟩ = some (.int .i64 tm) ∧ w'.cell? ⟨g8, 16, none⟩ = some (.int .i64 fl)) ∧ w'.cell? ⟨gi, oi + i * 17 + 6, none⟩ = some (.int .i64 tm)) w') := Lib.hid (fun w' k => ⟨k.same HB5.out (fun x => x), ⟨cell_rowZ 3 _ (k.same HB5.out (fun x => x)) HCC.out.1, cell_rowZ 6 _ (k.same HB5.out (fun x => x)) HCC.out.2.2.1, cell_rowZ 16 _ (k.same HB5.out (fun x => x)) (HCC.out.2.2.2)⟩, (HIW.out w' (HK5.out.trans k)).2⟩)
            have HS0 := Lib.hid (HSB.out wD HKD.out)
            clear hwd
            refine AnyBut.takeS (i := 0) (v := ?v33) rfl (by kernel_rfl) (Nat.le_of_eq (by kernel_rfl)) (by kernel_rfl) (by kernel_rfl) (fun _ _ _ h => h) (HS0.out) (Or.inl ⟨by kernel_rfl, ?hy33⟩) ?r33
            case hy33 =>
              intro w hSw
              try dsimp only at hSw
              refine exec_load_row 37 (.tmp 9) ?_ g8 ?_ 37 _ (0, 0) _ hSw.1 Try.underlying37 rfl HIR2.out.1
              · rfl
              · rfl
            try simp only [Act.put, List.getElem_toArray, List.getElem_cons_zero, List.setIfInBounds_toArray, List.set_cons_zero, List.set_cons_succ]
            refine AnyBut.one (i := 1) (by kernel_rfl) rfl (fun K hK => ?_)
            go_simp
            go_wp2_with fail
            refine (HCK.out wD (HK5.out.trans HKD.out)).mono ?_
            rintro e w6 ⟨rfl, k6⟩
            have HS6 := Lib.hid (HSB.out w6 (HKD.out.trans k6))
            have HK6 := Lib.hid (HKD.out.trans k6)
            clear k6
            go_wp2
            refine hK.out _ _ (HS6.out) ?_
            clear hK K
            try simp only [Act.put, List.getElem_toArray, List.getElem_cons_succ, List.getElem_cons_zero, List.setIfInBounds_toArray, List.set_cons_zero, List.set_cons_succ]
            refine AnyBut.takeS (i := 2) (v := ?v34) rfl (by kernel_rfl) (Nat.le_of_eq (by kernel_rfl)) (by kernel_rfl) (by kernel_rfl) (fun _ _ _ h => h) (HS6.out) (Or.inl ⟨by kernel_rfl, ?hy34⟩) ?r34
            case hy34 =>
              intro w hSw
              try dsimp only at hSw
              go_simp
              first | (obtain ⟨z0, ⟨z1, z2, z3⟩, z4⟩ := hSw; go_simp) | skip
              try with_reducible rfl
            try simp only [Act.put, List.getElem_toArray, List.getElem_cons_succ, List.getElem_cons_zero, List.setIfInBounds_toArray, List.set_cons_zero, List.set_cons_succ]
            refine AnyBut.takeS (i := 3) (v := ?v35) rfl (by kernel_rfl) (Nat.le_of_eq (by kernel_rfl)) (by kernel_rfl) (by kernel_rfl) (fun _ _ _ h => h) (HS6.out) (Or.inl ⟨by kernel_rfl, ?hy35⟩) ?r35
            case hy35 =>
              intro w hSw
              try dsimp only at hSw
              go_simp
              first | (obtain ⟨z0, ⟨z1, z2, z3⟩, z4⟩ := hSw; go_simp) | skip
              try with_reducible rfl
            try simp only [Act.put, List.getElem_toArray, List.getElem_cons_succ, List.getElem_cons_zero, List.setIfInBounds_toArray, List.set_cons_zero, List.set_cons_succ]
            refine AnyBut.takeS (i := 4) (v := ?v36) rfl (by kernel_rfl) (Nat.le_of_eq (by kernel_rfl)) (by kernel_rfl) (by kernel_rfl) (fun _ _ _ h => h) (HS6.out) (Or.inl ⟨by kernel_rfl, ?hy36⟩) ?r36
            case hy36 =>
              intro w hSw
              try dsimp only at hSw
              go_simp
              first | (obtain ⟨z0, ⟨z1, z2, z3⟩, z4⟩ := hSw; go_simp) | skip
              try with_reducible rfl
            try simp only [Act.put, List.getElem_toArray, List.getElem_cons_succ, List.getElem_cons_zero, List.setIfInBounds_toArray, List.set_cons_zero, List.set_cons_succ]
            refine AnyBut.takeS (i := 5) (v := ?v37) rfl (by kernel_rfl) (Nat.le_of_eq (by kernel_rfl)) (by kernel_rfl) (by kernel_rfl) (fun _ _ _ h => h) (HS6.out) (Or.inl ⟨by kernel_rfl, ?hy37⟩) ?r37
            case hy37 =>
              intro w hSw
              try dsimp only at hSw
              go_simp
              first | (obtain ⟨z0, ⟨z1, z2, z3⟩, z4⟩ := hSw; go_simp) | skip
              try with_reducible rfl
            try simp only [Act.put, List.getElem_toArray, List.getElem_cons_succ, List.getElem_cons_zero, List.setIfInBounds_toArray, List.set_cons_zero, List.set_cons_succ]
            refine AnyBut.takeS (i := 6) (v := ?v38) rfl (by kernel_rfl) (Nat.le_of_eq (by kernel_rfl)) (by kernel_rfl) (by kernel_rfl) (fun _ _ _ h => h) (HS6.out) (Or.inl ⟨by kernel_rfl, ?hy38⟩) ?r38
            case hy38 =>
              intro w hSw
              try dsimp only at hSw
              go_simp
              first | (obtain ⟨z0, ⟨z1, z2, z3⟩, z4⟩ := hSw; go_simp) | skip
              try with_reducible rfl
            try simp only [Act.put, List.getElem_toArray, List.getElem_cons_succ, List.getElem_cons_zero, List.setIfInBounds_toArray, List.set_cons_zero, List.set_cons_succ]
            refine AnyBut.takeS (i := 7) (v := ?v39) rfl (by kernel_rfl) (Nat.le_of_eq (by kernel_rfl)) (by kernel_rfl) (by kernel_rfl) (fun _ _ _ h => h) (HS6.out) (Or.inl ⟨by kernel_rfl, ?hy39⟩) ?r39
            case hy39 =>
              intro w hSw
              try dsimp only at hSw
              go_simp
              first | (obtain ⟨z0, ⟨z1, z2, z3⟩, z4⟩ := hSw; go_simp) | skip
              try with_reducible rfl
            try simp only [Act.put, List.getElem_toArray, List.getElem_cons_succ, List.getElem_cons_zero, List.setIfInBounds_toArray, List.set_cons_zero, List.set_cons_succ]
            refine AnyBut.takeS (i := 8) (v := ?v40) rfl (by kernel_rfl) (Nat.le_of_eq (by kernel_rfl)) (by kernel_rfl) (by kernel_rfl) (fun _ _ _ h => h) (HS6.out) (Or.inl ⟨by kernel_rfl, ?hy40⟩) ?r40
            case hy40 =>
              intro w hSw
              try dsimp only at hSw
              go_simp
              first | (obtain ⟨z0, ⟨z1, z2, z3⟩, z4⟩ := hSw; go_simp) | skip
              try with_reducible rfl
            try simp only [Act.put, List.getElem_toArray, List.getElem_cons_succ, List.getElem_cons_zero, List.setIfInBounds_toArray, List.set_cons_zero, List.set_cons_succ]
            refine AnyBut.takeS (i := 9) (v := ?v41) rfl (by kernel_rfl) (Nat.le_of_eq (by kernel_rfl)) (by kernel_rfl) (by kernel_rfl) (fun _ _ _ h => h) (HS6.out) (Or.inl ⟨by kernel_rfl, ?hy41⟩) ?r41
            case hy41 =>
              intro w hSw
              try dsimp only at hSw
              go_simp
              first | (obtain ⟨z0, ⟨z1, z2, z3⟩, z4⟩ := hSw; go_simp) | skip
              try with_reducible rfl
            try simp only [Act.put, List.getElem_toArray, List.getElem_cons_succ, List.getElem_cons_zero, List.setIfInBounds_toArray, List.set_cons_zero, List.set_cons_succ]
            refine AnyBut.takeS (i := 10) (v := ?v42) rfl (by kernel_rfl) (Nat.le_of_eq (by kernel_rfl)) (by kernel_rfl) (by kernel_rfl) (fun _ _ _ h => h) (HS6.out) (Or.inl ⟨by kernel_rfl, ?hy42⟩) ?r42
            case hy42 =>
              intro w hSw
              try dsimp only at hSw
              go_simp
              first | (obtain ⟨z0, ⟨z1, z2, z3⟩, z4⟩ := hSw; go_simp) | skip
              try with_reducible rfl
            try simp only [Act.put, List.getElem_toArray, List.getElem_cons_succ, List.getElem_cons_zero, List.setIfInBounds_toArray, List.set_cons_zero, List.set_cons_succ]
            refine AnyBut.takeS (i := 11) (v := ?v43) rfl (by kernel_rfl) (Nat.le_of_eq (by kernel_rfl)) (by kernel_rfl) (by kernel_rfl) (fun _ _ _ h => h) (HS6.out) (Or.inl ⟨by kernel_rfl, ?hy43⟩) ?r43
            case hy43 =>
              intro w hSw
              try dsimp only at hSw
              go_simp
              first | (obtain ⟨z0, ⟨z1, z2, z3⟩, z4⟩ := hSw; go_simp) | skip
              try with_reducible rfl
            try simp only [Act.put, List.getElem_toArray, List.getElem_cons_succ, List.getElem_cons_zero, List.setIfInBounds_toArray, List.set_cons_zero, List.set_cons_succ]
            refine AnyBut.takeS (i := 12) (v := ?v44) rfl (by kernel_rfl) (Nat.le_of_eq (by kernel_rfl)) (by kernel_rfl) (by kernel_rfl) (fun _ _ _ h => h) (HS6.out) (Or.inl ⟨by kernel_rfl, ?hy44⟩) ?r44
            case hy44 =>
              intro w hSw
              try dsimp only at hSw
              go_simp
              first | (obtain ⟨z0, ⟨z1, z2, z3⟩, z4⟩ := hSw; go_simp) | skip
              try with_reducible rfl
            try simp only [Act.put, List.getElem_toArray, List.getElem_cons_succ, List.getElem_cons_zero, List.setIfInBounds_toArray, List.set_cons_zero, List.set_cons_succ]
            refine AnyBut.takeS (i := 13) (v := ?v45) rfl (by kernel_rfl) (Nat.le_of_eq (by kernel_rfl)) (by kernel_rfl) (by kernel_rfl) (fun _ _ _ h => h) (HS6.out) (Or.inl ⟨by kernel_rfl, ?hy45⟩) ?r45
            case hy45 =>
              intro w hSw
              try dsimp only at hSw
              go_simp
              first | (obtain ⟨z0, ⟨z1, z2, z3⟩, z4⟩ := hSw; go_simp) | skip
              try with_reducible rfl
            try simp only [Act.put, List.getElem_toArray, List.getElem_cons_succ, List.getElem_cons_zero, List.setIfInBounds_toArray, List.set_cons_zero, List.set_cons_succ]
            refine AnyBut.takeS (i := 14) (v := ?v46) rfl (by kernel_rfl) (Nat.le_of_eq (by kernel_rfl)) (by kernel_rfl) (by kernel_rfl) (fun _ _ _ h => h) (HS6.out) (Or.inl ⟨by kernel_rfl, ?hy46⟩) ?r46
            case hy46 =>
              intro w hSw
              try dsimp only at hSw
              go_simp
              first | (obtain ⟨z0, ⟨z1, z2, z3⟩, z4⟩ := hSw; go_simp) | skip
              try with_reducible rfl
            try simp only [Act.put, List.getElem_toArray, List.getElem_cons_succ, List.getElem_cons_zero, List.setIfInBounds_toArray, List.set_cons_zero, List.set_cons_succ]
            refine AnyBut.takeS (i := 15) (v := ?v47) rfl (by kernel_rfl) (Nat.le_of_eq (by kernel_rfl)) (by kernel_rfl) (by kernel_rfl) (fun _ _ _ h => h) (HS6.out) (Or.inl ⟨by kernel_rfl, ?hy47⟩) ?r47
            case hy47 =>
              intro w hSw
              try dsimp only at hSw
              go_simp
              first | (obtain ⟨z0, ⟨z1, z2, z3⟩, z4⟩ := hSw; go_simp) | skip
              try with_reducible rfl
            try simp only [Act.put, List.getElem_toArray, List.getElem_cons_succ, List.getElem_cons_zero, List.setIfInBounds_toArray, List.set_cons_zero, List.set_cons_succ]
            refine AnyBut.takeS (i := 16) (v := ?v48) rfl (by kernel_rfl) (Nat.le_of_eq (by kernel_rfl)) (by kernel_rfl) (by kernel_rfl) (fun _ _ _ h => h) (HS6.out) (Or.inl ⟨by kernel_rfl, ?hy48⟩) ?r48
            case hy48 =>
              intro w hSw
              try dsimp only at hSw
              go_simp
              first | (obtain ⟨z0, ⟨z1, z2, z3⟩, z4⟩ := hSw; go_simp) | skip
              try with_reducible rfl
            try simp only [Act.put, List.getElem_toArray, List.getElem_cons_succ, List.getElem_cons_zero, List.setIfInBounds_toArray, List.set_cons_zero, List.set_cons_succ]
            refine AnyBut.takeS (i := 17) (v := ?v49) rfl (by kernel_rfl) (Nat.le_of_eq (by kernel_rfl)) (by kernel_rfl) (by kernel_rfl) (fun _ _ _ h => h) (HS6.out) (Or.inl ⟨by kernel_rfl, ?hy49⟩) ?r49
            case hy49 =>
              intro w hSw
              try dsimp only at hSw
              go_simp
              first | (obtain ⟨z0, ⟨z1, z2, z3⟩, z4⟩ := hSw; go_simp) | skip
              try with_reducible rfl
            try simp only [Act.put, List.getElem_toArray, List.getElem_cons_succ, List.getElem_cons_zero, List.setIfInBounds_toArray, List.set_cons_zero, List.set_cons_succ]
            refine AnyBut.takeS (i := 18) (v := ?v50) rfl (by kernel_rfl) (Nat.le_of_eq (by kernel_rfl)) (by kernel_rfl) (by kernel_rfl) (fun _ _ _ h => h) (HS6.out) (Or.inl ⟨by kernel_rfl, ?hy50⟩) ?r50
            case hy50 =>
              intro w hSw
              try dsimp only at hSw
              go_simp
              first | (obtain ⟨z0, ⟨z1, z2, z3⟩, z4⟩ := hSw; go_simp) | skip
              try with_reducible rfl
            try simp only [Act.put, List.getElem_toArray, List.getElem_cons_succ, List.getElem_cons_zero, List.setIfInBounds_toArray, List.set_cons_zero, List.set_cons_succ]
            refine AnyBut.takeS (i := 19) (v := ?v51) rfl (by kernel_rfl) (Nat.le_of_eq (by kernel_rfl)) (by kernel_rfl) (by kernel_rfl) (fun _ _ _ h => h) (HS6.out) (Or.inl ⟨by kernel_rfl, ?hy51⟩) ?r51
            case hy51 =>
              intro w hSw
              try dsimp only at hSw
              go_simp
              first | (obtain ⟨z0, ⟨z1, z2, z3⟩, z4⟩ := hSw; go_simp) | skip
              try with_reducible rfl
            try simp only [Act.put, List.getElem_toArray, List.getElem_cons_succ, List.getElem_cons_zero, List.setIfInBounds_toArray, List.set_cons_zero, List.set_cons_succ]
            refine AnyBut.takeS (i := 20) (v := ?v52) rfl (by kernel_rfl) (Nat.le_of_eq (by kernel_rfl)) (by kernel_rfl) (by kernel_rfl) (fun _ _ _ h => h) (HS6.out) (Or.inl ⟨by kernel_rfl, ?hy52⟩) ?r52
            case hy52 =>
              intro w hSw
              try dsimp only at hSw
              go_simp
              first | (obtain ⟨z0, ⟨z1, z2, z3⟩, z4⟩ := hSw; go_simp) | skip
              try with_reducible rfl
            try simp only [Act.put, List.getElem_toArray, List.getElem_cons_succ, List.getElem_cons_zero, List.setIfInBounds_toArray, List.set_cons_zero, List.set_cons_succ]
            refine AnyBut.takeS (i := 21) (v := ?v53) rfl (by kernel_rfl) (Nat.le_of_eq (by kernel_rfl)) (by kernel_rfl) (by kernel_rfl) (fun _ _ _ h => h) (HS6.out) (Or.inl ⟨by kernel_rfl, ?hy53⟩) ?r53
            case hy53 =>
              intro w hSw
              try dsimp only at hSw
              go_simp
              first | (obtain ⟨z0, ⟨z1, z2, z3⟩, z4⟩ := hSw; go_simp) | skip
              try with_reducible rfl
            try simp only [Act.put, List.getElem_toArray, List.getElem_cons_succ, List.getElem_cons_zero, List.setIfInBounds_toArray, List.set_cons_zero, List.set_cons_succ]
            refine AnyBut.takeS (i := 22) (v := ?v54) rfl (by kernel_rfl) (Nat.le_of_eq (by kernel_rfl)) (by kernel_rfl) (by kernel_rfl) (fun _ _ _ h => h) (HS6.out) (Or.inl ⟨by kernel_rfl, ?hy54⟩) ?r54
            case hy54 =>
              intro w hSw
              try dsimp only at hSw
              go_simp
              first | (obtain ⟨z0, ⟨z1, z2, z3⟩, z4⟩ := hSw; go_simp) | skip
              try with_reducible rfl
            try simp only [Act.put, List.getElem_toArray, List.getElem_cons_succ, List.getElem_cons_zero, List.setIfInBounds_toArray, List.set_cons_zero, List.set_cons_succ]
            refine AnyBut.takeS (i := 23) (v := ?v55) rfl (by kernel_rfl) (Nat.le_of_eq (by kernel_rfl)) (by kernel_rfl) (by kernel_rfl) (fun _ _ _ h => h) (HS6.out) (Or.inl ⟨by kernel_rfl, ?hy55⟩) ?r55
            case hy55 =>
              intro w hSw
              try dsimp only at hSw
              go_simp
              first | (obtain ⟨z0, ⟨z1, z2, z3⟩, z4⟩ := hSw; go_simp) | skip
              try with_reducible rfl
            try simp only [Act.put, List.getElem_toArray, List.getElem_cons_succ, List.getElem_cons_zero, List.setIfInBounds_toArray, List.set_cons_zero, List.set_cons_succ]
            refine AnyBut.takeS (i := 24) (v := ?v56) rfl (by kernel_rfl) (Nat.le_of_eq (by kernel_rfl)) (by kernel_rfl) (by kernel_rfl) (fun _ _ _ h => h) (HS6.out) (Or.inl ⟨by kernel_rfl, ?hy56⟩) ?r56
            case hy56 =>
              intro w hSw
              try dsimp only at hSw
              go_simp
              first | (obtain ⟨z0, ⟨z1, z2, z3⟩, z4⟩ := hSw; go_simp) | skip
              try with_reducible rfl
            try simp only [Act.put, List.getElem_toArray, List.getElem_cons_succ, List.getElem_cons_zero, List.setIfInBounds_toArray, List.set_cons_zero, List.set_cons_succ]
            refine AnyBut.takeS (i := 25) (v := ?v57) rfl (by kernel_rfl) (Nat.le_of_eq (by kernel_rfl)) (by kernel_rfl) (by kernel_rfl) (fun _ _ _ h => h) (HS6.out) (Or.inl ⟨by kernel_rfl, ?hy57⟩) ?r57
            case hy57 =>
              intro w hSw
              try dsimp only at hSw
              go_simp
              first | (obtain ⟨z0, ⟨z1, z2, z3⟩, z4⟩ := hSw; go_simp) | skip
              try with_reducible rfl
            try simp only [Act.put, List.getElem_toArray, List.getElem_cons_succ, List.getElem_cons_zero, List.setIfInBounds_toArray, List.set_cons_zero, List.set_cons_succ]
            refine AnyBut.done (by kernel_rfl) ?_
            clear qt q10'
            have c16 := (HSB.out _ HK6.out).2.1.2.2
            go_upto_region 16 with fail
            clear c16 q10
            have HK6d : Hid (Kept (fun _ => False) w5 w6.drew) := Lib.hid (HK6.out.trans (Kept.refl _ _).drew)
            have HS16 : Hid ((fun w' => w'.cell? ⟨g8, 5, none⟩ = some (.int .i64 pt) ∧ w'.cell? ⟨go, oo + j * 17 + 6, none⟩ = some (.int .i64 pt)) w6.drew) := Lib.hid ⟨cell_rowZ 5 _ (HK6d.out.same HB5.out (fun x => x)) (HCC.out.2.1.trans (by rw [HSV.out])), HPO.out _ (HK5.out.trans HK6d.out)⟩
            have qx : (pt != pt) = false := by simp
            have ql : decide (pt < pt) = false := decide_eq_false (by omega)
            refine AnyBut.start (S := fun w' => w'.cell? ⟨g8, 5, none⟩ = some (.int .i64 pt) ∧ w'.cell? ⟨go, oo + j * 17 + 6, none⟩ = some (.int .i64 pt)) (k := 37) (by kernel_rfl) ?_
            refine AnyBut.takeS (i := 0) (v := ?v58) rfl (by kernel_rfl) (Nat.le_of_eq (by kernel_rfl)) (by kernel_rfl) (by kernel_rfl) (fun _ _ _ h => h) (HS16.out) (Or.inl ⟨by kernel_rfl, ?hy58⟩) ?r58
            case hy58 =>
              intro w hSw
              try dsimp only at hSw
              go_simp
              first | (obtain ⟨z0, z1⟩ := hSw; go_simp) | skip
              try with_reducible rfl
            try simp only [Act.put, List.getElem_toArray, List.getElem_cons_zero, List.setIfInBounds_toArray, List.set_cons_zero, List.set_cons_succ]
            refine AnyBut.takeS (i := 1) (v := ?v59) rfl (by kernel_rfl) (Nat.le_of_eq (by kernel_rfl)) (by kernel_rfl) (by kernel_rfl) (fun _ _ _ h => h) (HS16.out) (Or.inl ⟨by kernel_rfl, ?hy59⟩) ?r59
            case hy59 =>
              intro w hSw
              try dsimp only at hSw
              go_simp
              first | (obtain ⟨z0, z1⟩ := hSw; go_simp) | skip
              try with_reducible rfl
            try simp only [Act.put, List.getElem_toArray, List.getElem_cons_succ, List.getElem_cons_zero, List.setIfInBounds_toArray, List.set_cons_zero, List.set_cons_succ]
            refine AnyBut.takeS (i := 2) (v := ?v60) rfl (by kernel_rfl) (Nat.le_of_eq (by kernel_rfl)) (by kernel_rfl) (by kernel_rfl) (fun _ _ _ h => h) (HS16.out) (Or.inl ⟨by kernel_rfl, ?hy60⟩) ?r60
            case hy60 =>
              intro w hSw
              try dsimp only at hSw
              go_simp
              first | (obtain ⟨z0, z1⟩ := hSw; go_simp) | skip
              try with_reducible rfl
            try simp only [Act.put, List.getElem_toArray, List.getElem_cons_succ, List.getElem_cons_zero, List.setIfInBounds_toArray, List.set_cons_zero, List.set_cons_succ]
            refine AnyBut.takeS (i := 3) (v := ?v61) rfl (by kernel_rfl) (Nat.le_of_eq (by kernel_rfl)) (by kernel_rfl) (by kernel_rfl) (fun _ _ _ h => h) (HS16.out) (Or.inl ⟨by kernel_rfl, ?hy61⟩) ?r61
            case hy61 =>
              intro w hSw
              try dsimp only at hSw
              go_simp
              first | (obtain ⟨z0, z1⟩ := hSw; go_simp) | skip
              try with_reducible rfl
            try simp only [Act.put, List.getElem_toArray, List.getElem_cons_succ, List.getElem_cons_zero, List.setIfInBounds_toArray, List.set_cons_zero, List.set_cons_succ]
            refine AnyBut.takeS (i := 4) (v := ?v62) rfl (by kernel_rfl) (Nat.le_of_eq (by kernel_rfl)) (by kernel_rfl) (by kernel_rfl) (fun _ _ _ h => h) (HS16.out) (Or.inl ⟨by kernel_rfl, ?hy62⟩) ?r62
            case hy62 =>
              intro w hSw
              try dsimp only at hSw
              go_simp
              first | (obtain ⟨z0, z1⟩ := hSw; go_simp) | skip
              try with_reducible rfl
            try simp only [Act.put, List.getElem_toArray, List.getElem_cons_succ, List.getElem_cons_zero, List.setIfInBounds_toArray, List.set_cons_zero, List.set_cons_succ]
            refine AnyBut.takeS (i := 5) (v := ?v63) rfl (by kernel_rfl) (Nat.le_of_eq (by kernel_rfl)) (by kernel_rfl) (by kernel_rfl) (fun _ _ _ h => h) (HS16.out) (Or.inl ⟨by kernel_rfl, ?hy63⟩) ?r63
            case hy63 =>
              intro w hSw
              try dsimp only at hSw
              go_simp
              first | (obtain ⟨z0, z1⟩ := hSw; go_simp) | skip
              try with_reducible rfl
            try simp only [Act.put, List.getElem_toArray, List.getElem_cons_succ, List.getElem_cons_zero, List.setIfInBounds_toArray, List.set_cons_zero, List.set_cons_succ]
            refine AnyBut.takeS (i := 6) (v := ?v64) rfl (by kernel_rfl) (Nat.le_of_eq (by kernel_rfl)) (by kernel_rfl) (by kernel_rfl) (fun _ _ _ h => h) (HS16.out) (Or.inl ⟨by kernel_rfl, ?hy64⟩) ?r64
            case hy64 =>
              intro w hSw
              try dsimp only at hSw
              go_simp
              first | (obtain ⟨z0, z1⟩ := hSw; go_simp) | skip
              try with_reducible rfl
            try simp only [Act.put, List.getElem_toArray, List.getElem_cons_succ, List.getElem_cons_zero, List.setIfInBounds_toArray, List.set_cons_zero, List.set_cons_succ]
            refine AnyBut.takeS (i := 7) (v := ?v65) rfl (by kernel_rfl) (Nat.le_of_eq (by kernel_rfl)) (by kernel_rfl) (by kernel_rfl) (fun _ _ _ h => h) (HS16.out) (Or.inl ⟨by kernel_rfl, ?hy65⟩) ?r65
            case hy65 =>
              intro w hSw
              try dsimp only at hSw
              go_simp
              first | (obtain ⟨z0, z1⟩ := hSw; go_simp) | skip
              try with_reducible rfl
            try simp only [Act.put, List.getElem_toArray, List.getElem_cons_succ, List.getElem_cons_zero, List.setIfInBounds_toArray, List.set_cons_zero, List.set_cons_succ]
            refine AnyBut.takeS (i := 8) (v := ?v66) rfl (by kernel_rfl) (Nat.le_of_eq (by kernel_rfl)) (by kernel_rfl) (by kernel_rfl) (fun _ _ _ h => h) (HS16.out) (Or.inl ⟨by kernel_rfl, ?hy66⟩) ?r66
            case hy66 =>
              intro w hSw
              try dsimp only at hSw
              go_simp
              first | (obtain ⟨z0, z1⟩ := hSw; go_simp) | skip
              try with_reducible rfl
            try simp only [Act.put, List.getElem_toArray, List.getElem_cons_succ, List.getElem_cons_zero, List.setIfInBounds_toArray, List.set_cons_zero, List.set_cons_succ]
            refine AnyBut.takeS (i := 9) (v := ?v67) rfl (by kernel_rfl) (Nat.le_of_eq (by kernel_rfl)) (by kernel_rfl) (by kernel_rfl) (fun _ _ _ h => h) (HS16.out) (Or.inl ⟨by kernel_rfl, ?hy67⟩) ?r67
            case hy67 =>
              intro w hSw
              try dsimp only at hSw
              go_simp
              first | (obtain ⟨z0, z1⟩ := hSw; go_simp) | skip
              try with_reducible rfl
            try simp only [Act.put, List.getElem_toArray, List.getElem_cons_succ, List.getElem_cons_zero, List.setIfInBounds_toArray, List.set_cons_zero, List.set_cons_succ]
            refine AnyBut.takeS (i := 10) (v := ?v68) rfl (by kernel_rfl) (Nat.le_of_eq (by kernel_rfl)) (by kernel_rfl) (by kernel_rfl) (fun _ _ _ h => h) (HS16.out) (Or.inl ⟨by kernel_rfl, ?hy68⟩) ?r68
            case hy68 =>
              intro w hSw
              try dsimp only at hSw
              go_simp
              first | (obtain ⟨z0, z1⟩ := hSw; go_simp) | skip
              try with_reducible rfl
            try simp only [Act.put, List.getElem_toArray, List.getElem_cons_succ, List.getElem_cons_zero, List.setIfInBounds_toArray, List.set_cons_zero, List.set_cons_succ]
            refine AnyBut.takeS (i := 11) (v := ?v69) rfl (by kernel_rfl) (Nat.le_of_eq (by kernel_rfl)) (by kernel_rfl) (by kernel_rfl) (fun _ _ _ h => h) (HS16.out) (Or.inl ⟨by kernel_rfl, ?hy69⟩) ?r69
            case hy69 =>
              intro w hSw
              try dsimp only at hSw
              go_simp
              first | (obtain ⟨z0, z1⟩ := hSw; go_simp) | skip
              try with_reducible rfl
            try simp only [Act.put, List.getElem_toArray, List.getElem_cons_succ, List.getElem_cons_zero, List.setIfInBounds_toArray, List.set_cons_zero, List.set_cons_succ]
            refine AnyBut.takeS (i := 12) (v := ?v70) rfl (by kernel_rfl) (Nat.le_of_eq (by kernel_rfl)) (by kernel_rfl) (by kernel_rfl) (fun _ _ _ h => h) (HS16.out) (Or.inl ⟨by kernel_rfl, ?hy70⟩) ?r70
            case hy70 =>
              intro w hSw
              try dsimp only at hSw
              go_simp
              first | (obtain ⟨z0, z1⟩ := hSw; go_simp) | skip
              try with_reducible rfl
            try simp only [Act.put, List.getElem_toArray, List.getElem_cons_succ, List.getElem_cons_zero, List.setIfInBounds_toArray, List.set_cons_zero, List.set_cons_succ]
            refine AnyBut.takeS (i := 13) (v := ?v71) rfl (by kernel_rfl) (Nat.le_of_eq (by kernel_rfl)) (by kernel_rfl) (by kernel_rfl) (fun _ _ _ h => h) (HS16.out) (Or.inl ⟨by kernel_rfl, ?hy71⟩) ?r71
            case hy71 =>
              intro w hSw
              try dsimp only at hSw
              go_simp
              first | (obtain ⟨z0, z1⟩ := hSw; go_simp) | skip
              try with_reducible rfl
            try simp only [Act.put, List.getElem_toArray, List.getElem_cons_succ, List.getElem_cons_zero, List.setIfInBounds_toArray, List.set_cons_zero, List.set_cons_succ]
            refine AnyBut.takeS (i := 14) (v := ?v72) rfl (by kernel_rfl) (Nat.le_of_eq (by kernel_rfl)) (by kernel_rfl) (by kernel_rfl) (fun _ _ _ h => h) (HS16.out) (Or.inl ⟨by kernel_rfl, ?hy72⟩) ?r72
            case hy72 =>
              intro w hSw
              try dsimp only at hSw
              go_simp
              first | (obtain ⟨z0, z1⟩ := hSw; go_simp) | skip
              try with_reducible rfl
            try simp only [Act.put, List.getElem_toArray, List.getElem_cons_succ, List.getElem_cons_zero, List.setIfInBounds_toArray, List.set_cons_zero, List.set_cons_succ]
            refine AnyBut.takeS (i := 15) (v := ?v73) rfl (by kernel_rfl) (Nat.le_of_eq (by kernel_rfl)) (by kernel_rfl) (by kernel_rfl) (fun _ _ _ h => h) (HS16.out) (Or.inl ⟨by kernel_rfl, ?hy73⟩) ?r73
            case hy73 =>
              intro w hSw
              try dsimp only at hSw
              go_simp
              first | (obtain ⟨z0, z1⟩ := hSw; go_simp) | skip
              try with_reducible rfl
            try simp only [Act.put, List.getElem_toArray, List.getElem_cons_succ, List.getElem_cons_zero, List.setIfInBounds_toArray, List.set_cons_zero, List.set_cons_succ]
            refine AnyBut.takeS (i := 16) (v := undef) rfl (by kernel_rfl) (Nat.le_of_eq (by kernel_rfl)) (by kernel_rfl) (by kernel_rfl) (fun _ _ _ h => h) (HS16.out) (Or.inr ⟨by kernel_rfl, rfl⟩) ?r74
            try simp only [Act.put, List.getElem_toArray, List.getElem_cons_succ, List.getElem_cons_zero, List.setIfInBounds_toArray, List.set_cons_zero, List.set_cons_succ]
            refine AnyBut.takeS (i := 17) (v := undef) rfl (by kernel_rfl) (Nat.le_of_eq (by kernel_rfl)) (by kernel_rfl) (by kernel_rfl) (fun _ _ _ h => h) (HS16.out) (Or.inr ⟨by kernel_rfl, rfl⟩) ?r75
            try simp only [Act.put, List.getElem_toArray, List.getElem_cons_succ, List.getElem_cons_zero, List.setIfInBounds_toArray, List.set_cons_zero, List.set_cons_succ]
            refine AnyBut.takeS (i := 18) (v := undef) rfl (by kernel_rfl) (Nat.le_of_eq (by kernel_rfl)) (by kernel_rfl) (by kernel_rfl) (fun _ _ _ h => h) (HS16.out) (Or.inr ⟨by kernel_rfl, rfl⟩) ?r76
            try simp only [Act.put, List.getElem_toArray, List.getElem_cons_succ, List.getElem_cons_zero, List.setIfInBounds_toArray, List.set_cons_zero, List.set_cons_succ]
            refine AnyBut.takeS (i := 19) (v := undef) rfl (by kernel_rfl) (Nat.le_of_eq (by kernel_rfl)) (by kernel_rfl) (by kernel_rfl) (fun _ _ _ h => h) (HS16.out) (Or.inr ⟨by kernel_rfl, rfl⟩) ?r77
            try simp only [Act.put, List.getElem_toArray, List.getElem_cons_succ, List.getElem_cons_zero, List.setIfInBounds_toArray, List.set_cons_zero, List.set_cons_succ]
            refine AnyBut.takeS (i := 20) (v := undef) rfl (by kernel_rfl) (Nat.le_of_eq (by kernel_rfl)) (by kernel_rfl) (by kernel_rfl) (fun _ _ _ h => h) (HS16.out) (Or.inr ⟨by kernel_rfl, rfl⟩) ?r78
            try simp only [Act.put, List.getElem_toArray, List.getElem_cons_succ, List.getElem_cons_zero, List.setIfInBounds_toArray, List.set_cons_zero, List.set_cons_succ]
            refine AnyBut.takeS (i := 21) (v := undef) rfl (by kernel_rfl) (Nat.le_of_eq (by kernel_rfl)) (by kernel_rfl) (by kernel_rfl) (fun _ _ _ h => h) (HS16.out) (Or.inr ⟨by kernel_rfl, rfl⟩) ?r79
            try simp only [Act.put, List.getElem_toArray, List.getElem_cons_succ, List.getElem_cons_zero, List.setIfInBounds_toArray, List.set_cons_zero, List.set_cons_succ]
            refine AnyBut.takeS (i := 22) (v := undef) rfl (by kernel_rfl) (Nat.le_of_eq (by kernel_rfl)) (by kernel_rfl) (by kernel_rfl) (fun _ _ _ h => h) (HS16.out) (Or.inr ⟨by kernel_rfl, rfl⟩) ?r80
            try simp only [Act.put, List.getElem_toArray, List.getElem_cons_succ, List.getElem_cons_zero, List.setIfInBounds_toArray, List.set_cons_zero, List.set_cons_succ]
            refine AnyBut.takeS (i := 23) (v := undef) rfl (by kernel_rfl) (Nat.le_of_eq (by kernel_rfl)) (by kernel_rfl) (by kernel_rfl) (fun _ _ _ h => h) (HS16.out) (Or.inr ⟨by kernel_rfl, rfl⟩) ?r81
            try simp only [Act.put, List.getElem_toArray, List.getElem_cons_succ, List.getElem_cons_zero, List.setIfInBounds_toArray, List.set_cons_zero, List.set_cons_succ]
            refine AnyBut.takeS (i := 24) (v := ?v82) rfl (by kernel_rfl) (Nat.le_of_eq (by kernel_rfl)) (by kernel_rfl) (by kernel_rfl) (fun _ _ _ h => h) (HS16.out) (Or.inl ⟨by kernel_rfl, ?hy82⟩) ?r82
            case hy82 =>
              intro w hSw
              try dsimp only at hSw
              go_simp
              first | (obtain ⟨z0, z1⟩ := hSw; go_simp) | skip
              try with_reducible rfl
            try simp only [Act.put, List.getElem_toArray, List.getElem_cons_succ, List.getElem_cons_zero, List.setIfInBounds_toArray, List.set_cons_zero, List.set_cons_succ]
            refine AnyBut.takeS (i := 25) (v := ?v83) rfl (by kernel_rfl) (Nat.le_of_eq (by kernel_rfl)) (by kernel_rfl) (by kernel_rfl) (fun _ _ _ h => h) (HS16.out) (Or.inl ⟨by kernel_rfl, ?hy83⟩) ?r83
            case hy83 =>
              intro w hSw
              try dsimp only at hSw
              go_simp
              first | (obtain ⟨z0, z1⟩ := hSw; go_simp) | skip
              try with_reducible rfl
            try simp only [Act.put, List.getElem_toArray, List.getElem_cons_succ, List.getElem_cons_zero, List.setIfInBounds_toArray, List.set_cons_zero, List.set_cons_succ]
            refine AnyBut.takeS (i := 26) (v := ?v84) rfl (by kernel_rfl) (Nat.le_of_eq (by kernel_rfl)) (by kernel_rfl) (by kernel_rfl) (fun _ _ _ h => h) (HS16.out) (Or.inl ⟨by kernel_rfl, ?hy84⟩) ?r84
            case hy84 =>
              intro w hSw
              try dsimp only at hSw
              go_simp
              first | (obtain ⟨z0, z1⟩ := hSw; go_simp) | skip
              try with_reducible rfl
            try simp only [Act.put, List.getElem_toArray, List.getElem_cons_succ, List.getElem_cons_zero, List.setIfInBounds_toArray, List.set_cons_zero, List.set_cons_succ]
            refine AnyBut.takeS (i := 27) (v := ?v85) rfl (by kernel_rfl) (Nat.le_of_eq (by kernel_rfl)) (by kernel_rfl) (by kernel_rfl) (fun _ _ _ h => h) (HS16.out) (Or.inl ⟨by kernel_rfl, ?hy85⟩) ?r85
            case hy85 =>
              intro w hSw
              try dsimp only at hSw
              go_simp
              first | (obtain ⟨z0, z1⟩ := hSw; go_simp) | skip
              try with_reducible rfl
            try simp only [Act.put, List.getElem_toArray, List.getElem_cons_succ, List.getElem_cons_zero, List.setIfInBounds_toArray, List.set_cons_zero, List.set_cons_succ]
            refine AnyBut.takeS (i := 28) (v := ?v86) rfl (by kernel_rfl) (Nat.le_of_eq (by kernel_rfl)) (by kernel_rfl) (by kernel_rfl) (fun _ _ _ h => h) (HS16.out) (Or.inl ⟨by kernel_rfl, ?hy86⟩) ?r86
            case hy86 =>
              intro w hSw
              try dsimp only at hSw
              go_simp
              first | (obtain ⟨z0, z1⟩ := hSw; go_simp) | skip
              try with_reducible rfl
            try simp only [Act.put, List.getElem_toArray, List.getElem_cons_succ, List.getElem_cons_zero, List.setIfInBounds_toArray, List.set_cons_zero, List.set_cons_succ]
            refine AnyBut.takeS (i := 29) (v := ?v87) rfl (by kernel_rfl) (Nat.le_of_eq (by kernel_rfl)) (by kernel_rfl) (by kernel_rfl) (fun _ _ _ h => h) (HS16.out) (Or.inl ⟨by kernel_rfl, ?hy87⟩) ?r87
            case hy87 =>
              intro w hSw
              try dsimp only at hSw
              go_simp
              first | (obtain ⟨z0, z1⟩ := hSw; go_simp) | skip
              try with_reducible rfl
            try simp only [Act.put, List.getElem_toArray, List.getElem_cons_succ, List.getElem_cons_zero, List.setIfInBounds_toArray, List.set_cons_zero, List.set_cons_succ]
            refine AnyBut.takeS (i := 30) (v := ?v88) rfl (by kernel_rfl) (Nat.le_of_eq (by kernel_rfl)) (by kernel_rfl) (by kernel_rfl) (fun _ _ _ h => h) (HS16.out) (Or.inl ⟨by kernel_rfl, ?hy88⟩) ?r88
            case hy88 =>
              intro w hSw
              try dsimp only at hSw
              go_simp
              first | (obtain ⟨z0, z1⟩ := hSw; go_simp) | skip
              try with_reducible rfl
            try simp only [Act.put, List.getElem_toArray, List.getElem_cons_succ, List.getElem_cons_zero, List.setIfInBounds_toArray, List.set_cons_zero, List.set_cons_succ]
            refine AnyBut.takeS (i := 31) (v := ?v89) rfl (by kernel_rfl) (Nat.le_of_eq (by kernel_rfl)) (by kernel_rfl) (by kernel_rfl) (fun _ _ _ h => h) (HS16.out) (Or.inl ⟨by kernel_rfl, ?hy89⟩) ?r89
            case hy89 =>
              intro w hSw
              try dsimp only at hSw
              go_simp
              first | (obtain ⟨z0, z1⟩ := hSw; go_simp) | skip
              try with_reducible rfl
            try simp only [Act.put, List.getElem_toArray, List.getElem_cons_succ, List.getElem_cons_zero, List.setIfInBounds_toArray, List.set_cons_zero, List.set_cons_succ]
            refine AnyBut.takeS (i := 32) (v := ?v90) rfl (by kernel_rfl) (Nat.le_of_eq (by kernel_rfl)) (by kernel_rfl) (by kernel_rfl) (fun _ _ _ h => h) (HS16.out) (Or.inl ⟨by kernel_rfl, ?hy90⟩) ?r90
            case hy90 =>
              intro w hSw
              try dsimp only at hSw
              go_simp
              first | (obtain ⟨z0, z1⟩ := hSw; go_simp) | skip
              try with_reducible rfl
            try simp only [Act.put, List.getElem_toArray, List.getElem_cons_succ, List.getElem_cons_zero, List.setIfInBounds_toArray, List.set_cons_zero, List.set_cons_succ]
            refine AnyBut.takeS (i := 33) (v := ?v91) rfl (by kernel_rfl) (Nat.le_of_eq (by kernel_rfl)) (by kernel_rfl) (by kernel_rfl) (fun _ _ _ h => h) (HS16.out) (Or.inl ⟨by kernel_rfl, ?hy91⟩) ?r91
            case hy91 =>
              intro w hSw
              try dsimp only at hSw
              go_simp
              first | (obtain ⟨z0, z1⟩ := hSw; go_simp) | skip
              try with_reducible rfl
            try simp only [Act.put, List.getElem_toArray, List.getElem_cons_succ, List.getElem_cons_zero, List.setIfInBounds_toArray, List.set_cons_zero, List.set_cons_succ]
            refine AnyBut.takeS (i := 34) (v := ?v92) rfl (by kernel_rfl) (Nat.le_of_eq (by kernel_rfl)) (by kernel_rfl) (by kernel_rfl) (fun _ _ _ h => h) (HS16.out) (Or.inl ⟨by kernel_rfl, ?hy92⟩) ?r92
            case hy92 =>
              intro w hSw
              try dsimp only at hSw
              go_simp
              first | (obtain ⟨z0, z1⟩ := hSw; go_simp) | skip
              try with_reducible rfl
            try simp only [Act.put, List.getElem_toArray, List.getElem_cons_succ, List.getElem_cons_zero, List.setIfInBounds_toArray, List.set_cons_zero, List.set_cons_succ]
            refine AnyBut.takeS (i := 35) (v := ?v93) rfl (by kernel_rfl) (Nat.le_of_eq (by kernel_rfl)) (by kernel_rfl) (by kernel_rfl) (fun _ _ _ h => h) (HS16.out) (Or.inl ⟨by kernel_rfl, ?hy93⟩) ?r93
            case hy93 =>
              intro w hSw
              try dsimp only at hSw
              go_simp
              first | (obtain ⟨z0, z1⟩ := hSw; go_simp) | skip
              try with_reducible rfl
            try simp only [Act.put, List.getElem_toArray, List.getElem_cons_succ, List.getElem_cons_zero, List.setIfInBounds_toArray, List.set_cons_zero, List.set_cons_succ]
            refine AnyBut.takeS (i := 36) (v := ?v94) rfl (by kernel_rfl) (Nat.le_of_eq (by kernel_rfl)) (by kernel_rfl) (by kernel_rfl) (fun _ _ _ h => h) (HS16.out) (Or.inl ⟨by kernel_rfl, ?hy94⟩) ?r94
            case hy94 =>
              intro w hSw
              try dsimp only at hSw
              go_simp
              first | (obtain ⟨z0, z1⟩ := hSw; go_simp) | skip
              try with_reducible rfl
            try simp only [Act.put, List.getElem_toArray, List.getElem_cons_succ, List.getElem_cons_zero, List.setIfInBounds_toArray, List.set_cons_zero, List.set_cons_succ]
            refine AnyBut.done (by kernel_rfl) ?_
            clear qx ql
            go_upto_region 18 with fail
            have HK6e : Hid (Kept (fun _ => False) w5 w6.drew.drew) := Lib.hid (HK6d.out.trans (Kept.refl _ _).drew)
            have HS18 : Hid ((fun w' => w'.cell? ⟨g8, 16, none⟩ = some (.int .i64 fl) ∧ w'.cell? ⟨gi, oi + i * 17 + 5, none⟩ = some (.int .i64 xs) ∧ w'.cell? ⟨gi, oi + j * 17 + 6, none⟩ = some (.int .i64 pt) ∧ w'.cell? ⟨gi, oi + j * 17 + 5, none⟩ = some (.int .i64 ps)) w6.drew.drew) := Lib.hid ⟨(HSB.out _ HK6e.out).2.1.2.2, (HIW.out _ (HK5.out.trans HK6e.out)).1, HPI.out _ (HK5.out.trans HK6e.out), HPT.out _ (HK5.out.trans HK6e.out)⟩
            refine AnyBut.start (S := fun w' => w'.cell? ⟨g8, 16, none⟩ = some (.int .i64 fl) ∧ w'.cell? ⟨gi, oi + i * 17 + 5, none⟩ = some (.int .i64 xs) ∧ w'.cell? ⟨gi, oi + j * 17 + 6, none⟩ = some (.int .i64 pt) ∧ w'.cell? ⟨gi, oi + j * 17 + 5, none⟩ = some (.int .i64 ps)) (k := 32) (by kernel_rfl) ?_
            refine AnyBut.takeS (i := 0) (v := ?v95) rfl (by kernel_rfl) (Nat.le_of_eq (by kernel_rfl)) (by kernel_rfl) (by kernel_rfl) (fun _ _ _ h => h) (HS18.out) (Or.inl ⟨by kernel_rfl, ?hy95⟩) ?r95
            case hy95 =>
              intro w hSw
              try dsimp only at hSw
              go_simp
              first | (obtain ⟨z0, z1, z2, z3⟩ := hSw; go_simp) | skip
              try with_reducible rfl
            try simp only [Act.put, List.getElem_toArray, List.getElem_cons_zero, List.setIfInBounds_toArray, List.set_cons_zero, List.set_cons_succ]
            refine AnyBut.takeS (i := 1) (v := ?v96) rfl (by kernel_rfl) (Nat.le_of_eq (by kernel_rfl)) (by kernel_rfl) (by kernel_rfl) (fun _ _ _ h => h) (HS18.out) (Or.inl ⟨by kernel_rfl, ?hy96⟩) ?r96
            case hy96 =>
              intro w hSw
              try dsimp only at hSw
              go_simp
              first | (obtain ⟨z0, z1, z2, z3⟩ := hSw; go_simp) | skip
              try with_reducible rfl
            try simp only [Act.put, List.getElem_toArray, List.getElem_cons_succ, List.getElem_cons_zero, List.setIfInBounds_toArray, List.set_cons_zero, List.set_cons_succ]
            refine AnyBut.takeS (i := 2) (v := ?v97) rfl (by kernel_rfl) (Nat.le_of_eq (by kernel_rfl)) (by kernel_rfl) (by kernel_rfl) (fun _ _ _ h => h) (HS18.out) (Or.inl ⟨by kernel_rfl, ?hy97⟩) ?r97
            case hy97 =>
              intro w hSw
              try dsimp only at hSw
              go_simp
              first | (obtain ⟨z0, z1, z2, z3⟩ := hSw; go_simp) | skip
              try with_reducible rfl
            try simp only [Act.put, List.getElem_toArray, List.getElem_cons_succ, List.getElem_cons_zero, List.setIfInBounds_toArray, List.set_cons_zero, List.set_cons_succ]
            refine AnyBut.takeS (i := 3) (v := ?v98) rfl (by kernel_rfl) (Nat.le_of_eq (by kernel_rfl)) (by kernel_rfl) (by kernel_rfl) (fun _ _ _ h => h) (HS18.out) (Or.inl ⟨by kernel_rfl, ?hy98⟩) ?r98
            case hy98 =>
              intro w hSw
              try dsimp only at hSw
              go_simp
              first | (obtain ⟨z0, z1, z2, z3⟩ := hSw; go_simp) | skip
              try with_reducible rfl
            try simp only [Act.put, List.getElem_toArray, List.getElem_cons_succ, List.getElem_cons_zero, List.setIfInBounds_toArray, List.set_cons_zero, List.set_cons_succ]
            refine AnyBut.takeS (i := 4) (v := ?v99) rfl (by kernel_rfl) (Nat.le_of_eq (by kernel_rfl)) (by kernel_rfl) (by kernel_rfl) (fun _ _ _ h => h) (HS18.out) (Or.inl ⟨by kernel_rfl, ?hy99⟩) ?r99
            case hy99 =>
              intro w hSw
              try dsimp only at hSw
              go_simp
              first | (obtain ⟨z0, z1, z2, z3⟩ := hSw; go_simp) | skip
              try with_reducible rfl
            try simp only [Act.put, List.getElem_toArray, List.getElem_cons_succ, List.getElem_cons_zero, List.setIfInBounds_toArray, List.set_cons_zero, List.set_cons_succ]
            refine AnyBut.takeS (i := 5) (v := ?v100) rfl (by kernel_rfl) (Nat.le_of_eq (by kernel_rfl)) (by kernel_rfl) (by kernel_rfl) (fun _ _ _ h => h) (HS18.out) (Or.inl ⟨by kernel_rfl, ?hy100⟩) ?r100
            case hy100 =>
              intro w hSw
              try dsimp only at hSw
              go_simp
              first | (obtain ⟨z0, z1, z2, z3⟩ := hSw; go_simp) | skip
              try with_reducible rfl
            try simp only [Act.put, List.getElem_toArray, List.getElem_cons_succ, List.getElem_cons_zero, List.setIfInBounds_toArray, List.set_cons_zero, List.set_cons_succ]
            refine AnyBut.takeS (i := 6) (v := ?v101) rfl (by kernel_rfl) (Nat.le_of_eq (by kernel_rfl)) (by kernel_rfl) (by kernel_rfl) (fun _ _ _ h => h) (HS18.out) (Or.inl ⟨by kernel_rfl, ?hy101⟩) ?r101
            case hy101 =>
              intro w hSw
              try dsimp only at hSw
              go_simp
              first | (obtain ⟨z0, z1, z2, z3⟩ := hSw; go_simp) | skip
              try with_reducible rfl
            try simp only [Act.put, List.getElem_toArray, List.getElem_cons_succ, List.getElem_cons_zero, List.setIfInBounds_toArray, List.set_cons_zero, List.set_cons_succ]
            refine AnyBut.takeS (i := 7) (v := ?v102) rfl (by kernel_rfl) (Nat.le_of_eq (by kernel_rfl)) (by kernel_rfl) (by kernel_rfl) (fun _ _ _ h => h) (HS18.out) (Or.inl ⟨by kernel_rfl, ?hy102⟩) ?r102
            case hy102 =>
              intro w hSw
              try dsimp only at hSw
              go_simp
              first | (obtain ⟨z0, z1, z2, z3⟩ := hSw; go_simp) | skip
              try with_reducible rfl
            try simp only [Act.put, List.getElem_toArray, List.getElem_cons_succ, List.getElem_cons_zero, List.setIfInBounds_toArray, List.set_cons_zero, List.set_cons_succ]
            refine AnyBut.takeS (i := 8) (v := ?v103) rfl (by kernel_rfl) (Nat.le_of_eq (by kernel_rfl)) (by kernel_rfl) (by kernel_rfl) (fun _ _ _ h => h) (HS18.out) (Or.inl ⟨by kernel_rfl, ?hy103⟩) ?r103
            case hy103 =>
              intro w hSw
              try dsimp only at hSw
              go_simp
              first | (obtain ⟨z0, z1, z2, z3⟩ := hSw; go_simp) | skip
              try with_reducible rfl
            try simp only [Act.put, List.getElem_toArray, List.getElem_cons_succ, List.getElem_cons_zero, List.setIfInBounds_toArray, List.set_cons_zero, List.set_cons_succ]
            refine AnyBut.takeS (i := 9) (v := ?v104) rfl (by kernel_rfl) (Nat.le_of_eq (by kernel_rfl)) (by kernel_rfl) (by kernel_rfl) (fun _ _ _ h => h) (HS18.out) (Or.inl ⟨by kernel_rfl, ?hy104⟩) ?r104
            case hy104 =>
              intro w hSw
              try dsimp only at hSw
              go_simp
              first | (obtain ⟨z0, z1, z2, z3⟩ := hSw; go_simp) | skip
              try with_reducible rfl
            try simp only [Act.put, List.getElem_toArray, List.getElem_cons_succ, List.getElem_cons_zero, List.setIfInBounds_toArray, List.set_cons_zero, List.set_cons_succ]
            refine AnyBut.takeS (i := 10) (v := ?v105) rfl (by kernel_rfl) (Nat.le_of_eq (by kernel_rfl)) (by kernel_rfl) (by kernel_rfl) (fun _ _ _ h => h) (HS18.out) (Or.inl ⟨by kernel_rfl, ?hy105⟩) ?r105
            case hy105 =>
              intro w hSw
              try dsimp only at hSw
              go_simp
              first | (obtain ⟨z0, z1, z2, z3⟩ := hSw; go_simp) | skip
              try with_reducible rfl
            try simp only [Act.put, List.getElem_toArray, List.getElem_cons_succ, List.getElem_cons_zero, List.setIfInBounds_toArray, List.set_cons_zero, List.set_cons_succ]
            refine AnyBut.takeS (i := 11) (v := ?v106) rfl (by kernel_rfl) (Nat.le_of_eq (by kernel_rfl)) (by kernel_rfl) (by kernel_rfl) (fun _ _ _ h => h) (HS18.out) (Or.inl ⟨by kernel_rfl, ?hy106⟩) ?r106
            case hy106 =>
              intro w hSw
              try dsimp only at hSw
              go_simp
              first | (obtain ⟨z0, z1, z2, z3⟩ := hSw; go_simp) | skip
              try with_reducible rfl
            try simp only [Act.put, List.getElem_toArray, List.getElem_cons_succ, List.getElem_cons_zero, List.setIfInBounds_toArray, List.set_cons_zero, List.set_cons_succ]
            refine AnyBut.takeS (i := 12) (v := ?v107) rfl (by kernel_rfl) (Nat.le_of_eq (by kernel_rfl)) (by kernel_rfl) (by kernel_rfl) (fun _ _ _ h => h) (HS18.out) (Or.inl ⟨by kernel_rfl, ?hy107⟩) ?r107
            case hy107 =>
              intro w hSw
              try dsimp only at hSw
              go_simp
              first | (obtain ⟨z0, z1, z2, z3⟩ := hSw; go_simp) | skip
              try with_reducible rfl
            try simp only [Act.put, List.getElem_toArray, List.getElem_cons_succ, List.getElem_cons_zero, List.setIfInBounds_toArray, List.set_cons_zero, List.set_cons_succ]
            refine AnyBut.takeS (i := 13) (v := ?v108) rfl (by kernel_rfl) (Nat.le_of_eq (by kernel_rfl)) (by kernel_rfl) (by kernel_rfl) (fun _ _ _ h => h) (HS18.out) (Or.inl ⟨by kernel_rfl, ?hy108⟩) ?r108
            case hy108 =>
              intro w hSw
              try dsimp only at hSw
              go_simp
              first | (obtain ⟨z0, z1, z2, z3⟩ := hSw; go_simp) | skip
              try with_reducible rfl
            try simp only [Act.put, List.getElem_toArray, List.getElem_cons_succ, List.getElem_cons_zero, List.setIfInBounds_toArray, List.set_cons_zero, List.set_cons_succ]
            refine AnyBut.takeS (i := 14) (v := ?v109) rfl (by kernel_rfl) (Nat.le_of_eq (by kernel_rfl)) (by kernel_rfl) (by kernel_rfl) (fun _ _ _ h => h) (HS18.out) (Or.inl ⟨by kernel_rfl, ?hy109⟩) ?r109
            case hy109 =>
              intro w hSw
              try dsimp only at hSw
              go_simp
              first | (obtain ⟨z0, z1, z2, z3⟩ := hSw; go_simp) | skip
              try with_reducible rfl
            try simp only [Act.put, List.getElem_toArray, List.getElem_cons_succ, List.getElem_cons_zero, List.setIfInBounds_toArray, List.set_cons_zero, List.set_cons_succ]
            refine AnyBut.takeS (i := 15) (v := ?v110) rfl (by kernel_rfl) (Nat.le_of_eq (by kernel_rfl)) (by kernel_rfl) (by kernel_rfl) (fun _ _ _ h => h) (HS18.out) (Or.inl ⟨by kernel_rfl, ?hy110⟩) ?r110
            case hy110 =>
              intro w hSw
              try dsimp only at hSw
              go_simp
              first | (obtain ⟨z0, z1, z2, z3⟩ := hSw; go_simp) | skip
              try with_reducible rfl
            try simp only [Act.put, List.getElem_toArray, List.getElem_cons_succ, List.getElem_cons_zero, List.setIfInBounds_toArray, List.set_cons_zero, List.set_cons_succ]
            refine AnyBut.takeS (i := 16) (v := ?v111) rfl (by kernel_rfl) (Nat.le_of_eq (by kernel_rfl)) (by kernel_rfl) (by kernel_rfl) (fun _ _ _ h => h) (HS18.out) (Or.inl ⟨by kernel_rfl, ?hy111⟩) ?r111
            case hy111 =>
              intro w hSw
              try dsimp only at hSw
              go_simp
              first | (obtain ⟨z0, z1, z2, z3⟩ := hSw; go_simp) | skip
              try with_reducible rfl
            try simp only [Act.put, List.getElem_toArray, List.getElem_cons_succ, List.getElem_cons_zero, List.setIfInBounds_toArray, List.set_cons_zero, List.set_cons_succ]
            refine AnyBut.takeS (i := 17) (v := ?v112) rfl (by kernel_rfl) (Nat.le_of_eq (by kernel_rfl)) (by kernel_rfl) (by kernel_rfl) (fun _ _ _ h => h) (HS18.out) (Or.inl ⟨by kernel_rfl, ?hy112⟩) ?r112
            case hy112 =>
              intro w hSw
              try dsimp only at hSw
              go_simp
              first | (obtain ⟨z0, z1, z2, z3⟩ := hSw; go_simp) | skip
              try with_reducible rfl
            try simp only [Act.put, List.getElem_toArray, List.getElem_cons_succ, List.getElem_cons_zero, List.setIfInBounds_toArray, List.set_cons_zero, List.set_cons_succ]
            refine AnyBut.takeS (i := 18) (v := ?v113) rfl (by kernel_rfl) (Nat.le_of_eq (by kernel_rfl)) (by kernel_rfl) (by kernel_rfl) (fun _ _ _ h => h) (HS18.out) (Or.inl ⟨by kernel_rfl, ?hy113⟩) ?r113
            case hy113 =>
              intro w hSw
              try dsimp only at hSw
              go_simp
              first | (obtain ⟨z0, z1, z2, z3⟩ := hSw; go_simp) | skip
              try with_reducible rfl
            try simp only [Act.put, List.getElem_toArray, List.getElem_cons_succ, List.getElem_cons_zero, List.setIfInBounds_toArray, List.set_cons_zero, List.set_cons_succ]
            refine AnyBut.takeS (i := 19) (v := ?v114) rfl (by kernel_rfl) (Nat.le_of_eq (by kernel_rfl)) (by kernel_rfl) (by kernel_rfl) (fun _ _ _ h => h) (HS18.out) (Or.inl ⟨by kernel_rfl, ?hy114⟩) ?r114
            case hy114 =>
              intro w hSw
              try dsimp only at hSw
              go_simp
              first | (obtain ⟨z0, z1, z2, z3⟩ := hSw; go_simp) | skip
              try with_reducible rfl
            try simp only [Act.put, List.getElem_toArray, List.getElem_cons_succ, List.getElem_cons_zero, List.setIfInBounds_toArray, List.set_cons_zero, List.set_cons_succ]
            refine AnyBut.takeS (i := 20) (v := ?v115) rfl (by kernel_rfl) (Nat.le_of_eq (by kernel_rfl)) (by kernel_rfl) (by kernel_rfl) (fun _ _ _ h => h) (HS18.out) (Or.inl ⟨by kernel_rfl, ?hy115⟩) ?r115
            case hy115 =>
              intro w hSw
              try dsimp only at hSw
              go_simp
              first | (obtain ⟨z0, z1, z2, z3⟩ := hSw; go_simp) | skip
              try with_reducible rfl
            try simp only [Act.put, List.getElem_toArray, List.getElem_cons_succ, List.getElem_cons_zero, List.setIfInBounds_toArray, List.set_cons_zero, List.set_cons_succ]
            refine AnyBut.takeS (i := 21) (v := ?v116) rfl (by kernel_rfl) (Nat.le_of_eq (by kernel_rfl)) (by kernel_rfl) (by kernel_rfl) (fun _ _ _ h => h) (HS18.out) (Or.inl ⟨by kernel_rfl, ?hy116⟩) ?r116
            case hy116 =>
              intro w hSw
              try dsimp only at hSw
              go_simp
              first | (obtain ⟨z0, z1, z2, z3⟩ := hSw; go_simp) | skip
              try with_reducible rfl
            try simp only [Act.put, List.getElem_toArray, List.getElem_cons_succ, List.getElem_cons_zero, List.setIfInBounds_toArray, List.set_cons_zero, List.set_cons_succ]
            refine AnyBut.takeS (i := 22) (v := ?v117) rfl (by kernel_rfl) (Nat.le_of_eq (by kernel_rfl)) (by kernel_rfl) (by kernel_rfl) (fun _ _ _ h => h) (HS18.out) (Or.inl ⟨by kernel_rfl, ?hy117⟩) ?r117
            case hy117 =>
              intro w hSw
              try dsimp only at hSw
              go_simp
              first | (obtain ⟨z0, z1, z2, z3⟩ := hSw; go_simp) | skip
              try with_reducible rfl
            try simp only [Act.put, List.getElem_toArray, List.getElem_cons_succ, List.getElem_cons_zero, List.setIfInBounds_toArray, List.set_cons_zero, List.set_cons_succ]
            refine AnyBut.takeS (i := 23) (v := ?v118) rfl (by kernel_rfl) (Nat.le_of_eq (by kernel_rfl)) (by kernel_rfl) (by kernel_rfl) (fun _ _ _ h => h) (HS18.out) (Or.inl ⟨by kernel_rfl, ?hy118⟩) ?r118
            case hy118 =>
              intro w hSw
              try dsimp only at hSw
              go_simp
              first | (obtain ⟨z0, z1, z2, z3⟩ := hSw; go_simp) | skip
              try with_reducible rfl
            try simp only [Act.put, List.getElem_toArray, List.getElem_cons_succ, List.getElem_cons_zero, List.setIfInBounds_toArray, List.set_cons_zero, List.set_cons_succ]
            refine AnyBut.takeS (i := 24) (v := ?v119) rfl (by kernel_rfl) (Nat.le_of_eq (by kernel_rfl)) (by kernel_rfl) (by kernel_rfl) (fun _ _ _ h => h) (HS18.out) (Or.inl ⟨by kernel_rfl, ?hy119⟩) ?r119
            case hy119 =>
              intro w hSw
              try dsimp only at hSw
              go_simp
              first | (obtain ⟨z0, z1, z2, z3⟩ := hSw; go_simp) | skip
              try with_reducible rfl
            try simp only [Act.put, List.getElem_toArray, List.getElem_cons_succ, List.getElem_cons_zero, List.setIfInBounds_toArray, List.set_cons_zero, List.set_cons_succ]
            refine AnyBut.takeS (i := 25) (v := ?v120) rfl (by kernel_rfl) (Nat.le_of_eq (by kernel_rfl)) (by kernel_rfl) (by kernel_rfl) (fun _ _ _ h => h) (HS18.out) (Or.inl ⟨by kernel_rfl, ?hy120⟩) ?r120
            case hy120 =>
              intro w hSw
              try dsimp only at hSw
              go_simp
              first | (obtain ⟨z0, z1, z2, z3⟩ := hSw; go_simp) | skip
              try with_reducible rfl
            try simp only [Act.put, List.getElem_toArray, List.getElem_cons_succ, List.getElem_cons_zero, List.setIfInBounds_toArray, List.set_cons_zero, List.set_cons_succ]
            refine AnyBut.takeS (i := 26) (v := ?v121) rfl (by kernel_rfl) (Nat.le_of_eq (by kernel_rfl)) (by kernel_rfl) (by kernel_rfl) (fun _ _ _ h => h) (HS18.out) (Or.inl ⟨by kernel_rfl, ?hy121⟩) ?r121
            case hy121 =>
              intro w hSw
              try dsimp only at hSw
              go_simp
              first | (obtain ⟨z0, z1, z2, z3⟩ := hSw; go_simp) | skip
              try with_reducible rfl
            try simp only [Act.put, List.getElem_toArray, List.getElem_cons_succ, List.getElem_cons_zero, List.setIfInBounds_toArray, List.set_cons_zero, List.set_cons_succ]
            refine AnyBut.takeS (i := 27) (v := ?v122) rfl (by kernel_rfl) (Nat.le_of_eq (by kernel_rfl)) (by kernel_rfl) (by kernel_rfl) (fun _ _ _ h => h) (HS18.out) (Or.inl ⟨by kernel_rfl, ?hy122⟩) ?r122
            case hy122 =>
              intro w hSw
              try dsimp only at hSw
              go_simp
              first | (obtain ⟨z0, z1, z2, z3⟩ := hSw; go_simp) | skip
              try with_reducible rfl
            try simp only [Act.put, List.getElem_toArray, List.getElem_cons_succ, List.getElem_cons_zero, List.setIfInBounds_toArray, List.set_cons_zero, List.set_cons_succ]
            refine AnyBut.takeS (i := 28) (v := ?v123) rfl (by kernel_rfl) (Nat.le_of_eq (by kernel_rfl)) (by kernel_rfl) (by kernel_rfl) (fun _ _ _ h => h) (HS18.out) (Or.inl ⟨by kernel_rfl, ?hy123⟩) ?r123
            case hy123 =>
              intro w hSw
              try dsimp only at hSw
              go_simp
              first | (obtain ⟨z0, z1, z2, z3⟩ := hSw; go_simp) | skip
              try with_reducible rfl
            try simp only [Act.put, List.getElem_toArray, List.getElem_cons_succ, List.getElem_cons_zero, List.setIfInBounds_toArray, List.set_cons_zero, List.set_cons_succ]
            refine AnyBut.takeS (i := 29) (v := ?v124) rfl (by kernel_rfl) (Nat.le_of_eq (by kernel_rfl)) (by kernel_rfl) (by kernel_rfl) (fun _ _ _ h => h) (HS18.out) (Or.inl ⟨by kernel_rfl, ?hy124⟩) ?r124
            case hy124 =>
              intro w hSw
              try dsimp only at hSw
              go_simp
              first | (obtain ⟨z0, z1, z2, z3⟩ := hSw; go_simp) | skip
              try with_reducible rfl
            try simp only [Act.put, List.getElem_toArray, List.getElem_cons_succ, List.getElem_cons_zero, List.setIfInBounds_toArray, List.set_cons_zero, List.set_cons_succ]
            refine AnyBut.takeS (i := 30) (v := ?v125) rfl (by kernel_rfl) (Nat.le_of_eq (by kernel_rfl)) (by kernel_rfl) (by kernel_rfl) (fun _ _ _ h => h) (HS18.out) (Or.inl ⟨by kernel_rfl, ?hy125⟩) ?r125
            case hy125 =>
              intro w hSw
              try dsimp only at hSw
              go_simp
              first | (obtain ⟨z0, z1, z2, z3⟩ := hSw; go_simp) | skip
              try with_reducible rfl
            try simp only [Act.put, List.getElem_toArray, List.getElem_cons_succ, List.getElem_cons_zero, List.setIfInBounds_toArray, List.set_cons_zero, List.set_cons_succ]
            refine AnyBut.takeS (i := 31) (v := ?v126) rfl (by kernel_rfl) (Nat.le_of_eq (by kernel_rfl)) (by kernel_rfl) (by kernel_rfl) (fun _ _ _ h => h) (HS18.out) (Or.inl ⟨by kernel_rfl, ?hy126⟩) ?r126
            case hy126 =>
              intro w hSw
              try dsimp only at hSw
              go_simp
              first | (obtain ⟨z0, z1, z2, z3⟩ := hSw; go_simp) | skip
              try with_reducible rfl
            try simp only [Act.put, List.getElem_toArray, List.getElem_cons_succ, List.getElem_cons_zero, List.setIfInBounds_toArray, List.set_cons_zero, List.set_cons_succ]
            refine AnyBut.done (by kernel_rfl) ?_
            clear q14 q15 q2 q3
            go_wp2
            go_roundg (m - (i + 1))
            case measure => have := HD.out; omega
            case rel => exact ⟨i + 1, HD.out, rfl, rfl, HK5.out.trans HK6e.out⟩
      · obtain rfl : m = i := by omega
        clear hd
        go_wp2
        go_ret
        exact ⟨rfl, HK3.out.trans HKR.out⟩
end Go.Proofs.Ytiiibhdohlpodaa

