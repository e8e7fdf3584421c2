/- package wire: Encode. -/
import Derived.Test.YtdgpeganmgcjiaaY13
namespace Go.Proofs.Ytdgpeganmgcjiaa
open Go.RowKit
attribute [local go_sem ↓] Go.wp_at_zero Go.wp_at_succ

theorem fixF_getD (k v i : Nat) (h : i < k) : (fixF k v).getD i 0 = v / 256 ^ i % 256 := by
  induction k generalizing v i with
  | zero => omega
  | succ k ih =>
    cases i with
    | zero => simp [fixF]
    | succ i =>
      have := ih (v / 256) i (by omega)
      simp only [fixF, List.getD_cons_succ, this]
      rw [Nat.div_div_eq_div_mul, ← Nat.pow_succ']
theorem fldF_0 (r : FR) (X : Nat) (h : r.num.toNat * 8 + r.ty.toNat = X) (h0 : r.ty = 0) : fldF r = varW X ++ varW r.v := by unfold fldF headF bodyF; rw [h, if_pos h0]
theorem fldF_1 (r : FR) (X : Nat) (h : r.num.toNat * 8 + r.ty.toNat = X) (h0 : r.ty = 1) : fldF r = varW X ++ fixW r.v := by unfold fldF headF bodyF; rw [h, if_neg (by omega), if_pos h0]
theorem fldF_2 (r : FR) (X : Nat) (h : r.num.toNat * 8 + r.ty.toNat = X) (h0 : r.ty = 2) : fldF r = varW X ++ (varW r.b.length ++ r.b) := by unfold fldF headF bodyF; rw [h, if_neg (by omega), if_neg (by omega)]

/-- Bytes that were put down, beside a field's box. -/
structure EncSt (W w : World) (q : Nat) (cs : Array Value) (v : Value) (l : List Nat) : Prop where
  m : Mine W w 5 v (bys l)
  box : w.heap[q]? = some (.cells cs 40 (0, 0))
theorem EncSt.on {W w w' : World} {q : Nat} {cs : Array Value} {v : Value} {l : List Nat} (h : EncSt W w q cs v l) (k : Kept (fun _ => False) w w') : EncSt W w' q cs v l := ⟨h.m.on k, k.same h.box (fun x => x)⟩
theorem u8_ne_fld : (5 : TypeId) ≠ 40 := by decide
theorem wpList_enc {ops : Array Oper} {rest : List Oper} {o : Oper} {a : Act} {Q : Exit → Act → World → Prop} {w : World} (hgd : o.guard = none) (s x : Operand)
    (ho : o.op = .call { callee := .builtin .append, args := #[s, x], argTypes := #[25, 25] })
    (W : World) (q : Nat) (cs : Array Value) (v : Value) (l : List Nat) (hv : a.eval s = v) (hm : EncSt W w q cs v l)
    (y : Value) (news : List Nat) (hy : a.eval x = y) (hs : Src Try.prog 1 25 y (bys news).length (bys news) w)
    (hl : l.length + news.length ≤ 1000000000000)
    (h : ∀ (ao : Option Addr) (n c : Nat) w', n = (l ++ news).length → EncSt W w' q cs (.slice ao n c) (l ++ news) → wpList Try.prog ops Q rest (a.put o.dst (.slice ao n c)) w') : wpList Try.prog ops Q (o :: rest) a w := by
  obtain ⟨iI, hiI, hzI0, hzI1, hzI2⟩ := info_parts Try.infoU8
  refine wpList_mine2 hgd s x _ _ ho 5 iI (.int .u8 0) 1 Try.underlying25 hiI hzI0 hzI1 hzI2 rfl (by omega) W v (bys l) hv hm.m y (bys news) hy hs (by rw [bys_length, bys_length]; exact hl) ?_
  intro v' w' hm' hk hat
  rw [← bys_append] at hm'
  obtain ⟨ao, c, e⟩ := hm'.slice
  rw [bys_length] at e
  subst e
  exact h ao _ c w' rfl ⟨hm', hk.same hm.box (own_box hm.m.own hm.box u8_ne_fld)⟩

theorem encB_bad {l : List FR} (h : encE l ≠ 0) : encB l = [] := by unfold encB; rw [if_neg h]
theorem encB_ok {l : List FR} (h : encE l = 0) : encB l = l.flatMap fldF := by unfold encB; rw [if_pos h]
theorem recsR_drop (L : List PR) (i : Nat) (p : PR) (h : L[i]? = some p) : recsR (L.drop i) = p.r :: recsR (L.drop (i + 1)) := by
  have hi := (List.getElem?_eq_some_iff.1 h).1
  rw [List.drop_eq_getElem_cons hi]
  rw [List.getElem?_eq_getElem hi] at h
  injection h with h
  rw [h]; rfl
theorem recsR_take (L : List PR) (i : Nat) (p : PR) (h : L[i]? = some p) : recsR (L.take (i + 1)) = recsR (L.take i) ++ [p.r] := by
  unfold recsR
  rw [List.take_add_one, h]; simp

set_option maxHeartbeats 8000000 in
set_option maxRecDepth 100000 in
theorem wEncode_any (ao : Option Addr) (c : Nat) (L : List PR) (w : World) (hr : FldsAt w ao L) (hl : L.length ≤ 1000) (hbl : ∀ p ∈ L, p.r.b.length ≤ 1000) (X : List Nat) (E : Nat) (hE : encE (recsR L) = E) (hX : encB (recsR L) = X) :
    Calls Try.prog 8 #[.slice ao L.length c] w fun e w' => ∃ a c', e = .returned (.tuple #[.slice a X.length c', .int .i64 (E : Int)]) ∧ Mine w w' 5 (.slice a X.length c') (bys X) := by
  have HR := Lib.hid hr
  have HL := Lib.hid hl
  have HBL := Lib.hid hbl
  have HX := Lib.hid (show (E ≠ 0 → X = []) ∧ (E = 0 → X = (recsR L).flatMap fldF) from ⟨fun h => by rw [← hX]; exact encB_bad (by rw [hE]; exact h), fun h => by rw [← hX]; exact encB_ok (by rw [hE]; exact h)⟩)
  obtain ⟨n, hn⟩ : ∃ n, n = L.length := ⟨_, rfl⟩
  have HN := Lib.hid hn
  have HE := Lib.hid hE
  have hl9 : (n : Int) ≤ 1000 := by omega
  rw [← hn]
  clear hr hl hbl hn hX hE
  go_enter Try.func8, Try.ntmps8
  go_wp2
  go_loopg [4, 11] n (fun x s4 s11 wr => ∃ (i : Nat), i ≤ n ∧ x = n - i ∧ s11 = .int .i64 i ∧ encE (recsR (L.drop i)) = E ∧ Mine w wr 5 s4 (bys ((recsR (L.take i)).flatMap fldF)))
  case atStart => exact ⟨0, Nat.zero_le _, rfl, rfl, by simpa using HE.out, Mine.nil _ _⟩
  case round =>
    obtain ⟨i, hin, rfl, rfl, hen, hm⟩ := hrel
    obtain ⟨a4, c4, e4⟩ := hm.slice
    rw [bys_length] at e4
    subst e4
    have HM := Lib.hid hm
    have HEN := Lib.hid hen
    have HAL := Lib.hid (show ((recsR (L.take i)).flatMap fldF).length ≤ 1000 * 1020 by
      have h1 := flat_length (recsR (L.take i)) 1000 (fun r hr => by
        obtain ⟨p, hp, rfl⟩ := List.mem_map.1 hr
        exact HBL.out p (List.mem_of_mem_take hp))
      have h2 : (recsR (L.take i)).length ≤ 1000 := by unfold recsR; rw [List.length_map]; have := List.length_take_le i L; omega
      have h3 := Nat.mul_le_mul_right (20 + 1000) h2
      omega)
    obtain ⟨D, hD⟩ : ∃ D, D = (recsR (L.take i)).flatMap fldF := ⟨_, rfl⟩
    have HD := Lib.hid hD
    rw [← hD] at HM HAL ⊢
    obtain ⟨m, hmm⟩ : ∃ m, m = D.length := ⟨_, rfl⟩
    have HMM := Lib.hid hmm
    rw [← hmm] at HM ⊢
    clear hmm hen hm hD
    by_cases hd : i < n
    · obtain ⟨g, o, p, rfl, hi, hat, hok⟩ := (HR.out.kept HM.out.kept).get (i := i) (by have := HN.out; omega)
      have hc0 := hat.c0
      have hc1 := hat.c1
      have hc2 := hat.c2
      have hc3 := hat.c3
      have hpm : p ∈ L := List.mem_of_getElem? hi
      have HPL := Lib.hid (HBL.out p hpm)
      have hrd := recsR_drop L i p hi
      have hrt := recsR_take L i p hi
      have hen := HEN.out
      rw [hrd] at hen
      simp only [encE] at hen
      have HOK := Lib.hid ((HR.out.ok p hpm))
      have hck := wcheck_any p
      unfold badI at hck
      have HRT := Lib.hid (show (recsR (L.take (i + 1))).flatMap fldF = D ++ fldF p.r by rw [hrt, List.flatMap_append, HD.out]; simp)
      have HIN := Lib.hid hd
      have hdi : (i : Int) < (n : Int) := by omega
      have hdi0 : (0 : Int) ≤ (i : Int) := by omega
      obtain ⟨B, hB⟩ : ∃ B, B = badF p.r := ⟨_, rfl⟩
      rw [← hB] at hen hck
      have HBF := Lib.hid hB
      obtain ⟨pn, hpn⟩ : ∃ x, x = p.r.num := ⟨_, rfl⟩
      obtain ⟨pt, hpt⟩ : ∃ x, x = p.r.ty := ⟨_, rfl⟩
      obtain ⟨pv, hpv⟩ : ∃ x, x = p.r.v := ⟨_, rfl⟩
      obtain ⟨pa, hpa⟩ : ∃ x, x = p.a := ⟨_, rfl⟩
      obtain ⟨pc, hpc⟩ : ∃ x, x = p.c := ⟨_, rfl⟩
      obtain ⟨pl, hpl⟩ : ∃ x, x = p.r.b.length := ⟨_, rfl⟩
      rw [← hpn] at hc0
      rw [← hpt] at hc1
      rw [← hpv] at hc2
      rw [← hpa, ← hpc, ← hpl] at hc3
      rw [← hpn, ← hpt, ← hpv, ← hpa, ← hpc, ← hpl] at hck
      have HCK := Lib.hid hck
      have HPP := Lib.hid (And.intro hpn (And.intro hpt (And.intro hpv (And.intro hpa (And.intro hpc hpl)))))
      have HST : Hid (EncSt w (wr.alloc (.cells #[.int .i64 pn, .int .i64 pt, .int .u64 (pv : Int), .slice pa pl pc] 40)) wr.heap.size #[.int .i64 pn, .int .i64 pt, .int .u64 (pv : Int), .slice pa pl pc] (.slice a4 m c4) D) := Lib.hid ⟨HM.out.alloc _, heap_alloc_new wr _⟩
      obtain ⟨wb, hwb⟩ : ∃ wb, wb = wr.alloc (.cells #[.int .i64 pn, .int .i64 pt, .int .u64 (pv : Int), .slice pa pl pc] 40) := ⟨_, rfl⟩
      rw [← hwb] at HST
      have HWE := Lib.hid hwb
      obtain ⟨q, hq⟩ : ∃ q, q = wr.heap.size := ⟨_, rfl⟩
      rw [← hq] at HST
      have HQ := Lib.hid hq
      clear hat hok hpm hi hrd hrt hB hck hpn hpt hpv hpa hpc hpl hwb hq hd hin
      by_cases hB0 : B ≠ 0
      · rw [if_pos hB0] at hen
        have HEB := Lib.hid hen
        have hq : ((B : Int) != 0) = true := bneT (by omega)
        have HB0 := Lib.hid hB0
        clear hen hB0
        go_upto_region 5 with fail
        rw [← HWE.out, ← HQ.out]
        have hbx := box4 HST.out.box
        go_wp2_with (go_at_call 20; refine (HCK.out _).mono ?_; rintro e w1 ⟨rfl, hk1⟩; have HK1 := Lib.hid hk1; clear hk1)
        go_ret2
        have h := HX.out.1 (by rw [← HEB.out]; exact HB0.out)
        subst h
        have h := HEB.out
        subst h
        exact ⟨none, 0, rfl, World.ownsRow_nil _ _ _ _, (HST.out.on HK1.out).m.kept⟩
      · rw [if_neg hB0] at hen
        have HEB := Lib.hid hen
        have hB1 : B = 0 := by omega
        subst hB1
        have hbad := badF_zero (r := p.r) HBF.out.symm
        rw [← HPP.out.1, ← HPP.out.2.1] at hbad
        obtain ⟨n1, n2, n3, n4, _, _⟩ := hbad
        obtain ⟨NN, hNN⟩ : ∃ k : Nat, pn = (k : Int) := ⟨pn.toNat, by omega⟩
        obtain ⟨TT, hTT⟩ : ∃ k : Nat, pt = (k : Int) := ⟨pt.toNat, by omega⟩
        obtain ⟨X8, hX8⟩ : ∃ x, x = NN * 8 + TT := ⟨_, rfl⟩
        have HXX := Lib.hid (show p.r.num.toNat * 8 + p.r.ty.toNat = X8 by rw [← HPP.out.1, ← HPP.out.2.1, hNN, hTT, hX8]; simp)
        have hor : bits .or .u64 ((NN : Int) * 8) (TT : Int) = (X8 : Int) := by
          have h1 := or_add TT NN 3 (by omega)
          have h2 := u64_or_nat (NN * 8) TT (by omega) (by omega)
          rw [Nat.or_comm, show NN * 8 = NN * 2 ^ 3 from rfl, h1] at h2
          rw [show ((NN : Int) * 8) = ((NN * 2 ^ 3 : Nat) : Int) by omega, h2]
          omega
        subst hNN hTT
        have HXB := Lib.hid (show X8 < 18446744073709551616 by omega)
        have HVB := Lib.hid (show pv < 18446744073709551616 by rw [HPP.out.2.2.1]; exact HOK.out.v)
        have HTY := Lib.hid (show p.r.ty = (TT : Int) by rw [← HPP.out.2.1])
        have hsl : (NN : Int) * 2 ^ 3 = (NN : Int) * 8 := by omega
        clear hen hB0 hX8
        have hT3 : TT = 0 ∨ TT = 1 ∨ TT = 2 := by omega
        rcases hT3 with h0 | h0 | h0
        · have a0 : ((TT : Int) == 0) = true := beqT (by omega)
          have a1 : ((TT : Int) == 1) = false := beqF (by omega)
          have a2 : ((TT : Int) == 2) = false := beqF (by omega)
          have HT := Lib.hid h0
          clear h0
          go_upto_region 5 with fail
          rw [← HWE.out, ← HQ.out]
          have hbx := box4 HST.out.box
          go_upto_region 8 with (go_at_call 20; refine (HCK.out _).mono ?_; rintro e w1 ⟨rfl, hk1⟩; have HST1 := Lib.hid (HST.out.on hk1); have hbx1 := box4 HST1.out.box; clear hk1 hbx)
          go_upto_region 9 with (first
            | (go_at_call 19; refine (wvar_any X8 HXB.out _).mono ?_; rintro e w2 ⟨a1, c1, rfl, hm1⟩; have HM1 := Lib.hid hm1; have HST2 := Lib.hid (HST1.out.on hm1.kept); clear hm1)
            | (at_builtin; refine wpList_enc rfl (.tmp 20) (.tmp 29) rfl w q _ _ D rfl HST2.out _ (varW X8) rfl (by have := HM1.out.src (P := Try.prog) (Kept.refl _ _) Try.underlying25 (bys_one _); exact this) (by have := HAL.out; have := (varW_le X8).2; omega) ?_; intro a5 n5 c5 w3 hn5 hst3; have HN5 := Lib.hid hn5; have HST3 := Lib.hid hst3; clear hn5 hst3))
          have hbx2 := box4 HST3.out.box
          clear hbx1
          go_wp2_with (first
            | (go_at_call 19; refine (wvar_any pv HVB.out _).mono ?_; rintro e w4 ⟨a6, c6, rfl, hm4⟩; have HM4 := Lib.hid hm4; have HST4 := Lib.hid (HST3.out.on hm4.kept); clear hm4)
            | (at_builtin; refine wpList_enc rfl (.tmp 35) (.tmp 38) rfl w q _ _ (D ++ varW X8) rfl HST4.out _ (varW pv) rfl (by have := HM4.out.src (P := Try.prog) (Kept.refl _ _) Try.underlying25 (bys_one _); exact this) (by rw [List.length_append]; have := HAL.out; have := (varW_le X8).2; have := (varW_le pv).2; omega) ?_; intro a7 n7 c7 w5 hn7 hst5; have HN7 := Lib.hid hn7; have HST5 := Lib.hid hst5; clear hn7 hst5))
          go_roundg (n - (i + 1))
          case measure => have := HIN.out; omega
          case rel => exact ⟨i + 1, HIN.out, rfl, by go_num, HEB.out, by
            rw [HRT.out, fldF_0 _ _ HXX.out (by rw [HTY.out, HT.out]; rfl), ← List.append_assoc, ← HPP.out.2.2.1]; exact HST5.out.m⟩
        · have a0 : ((TT : Int) == 0) = false := beqF (by omega)
          have a1 : ((TT : Int) == 1) = true := beqT (by omega)
          have a2 : ((TT : Int) == 2) = false := beqF (by omega)
          have HT := Lib.hid h0
          clear h0
          go_upto_region 5 with fail
          rw [← HWE.out, ← HQ.out]
          have hbx := box4 HST.out.box
          go_upto_region 8 with (go_at_call 20; refine (HCK.out _).mono ?_; rintro e w1 ⟨rfl, hk1⟩; have HST1 := Lib.hid (HST.out.on hk1); have hbx1 := box4 HST1.out.box; clear hk1 hbx)
          go_upto_region 9 with (first
            | (go_at_call 19; refine (wvar_any X8 HXB.out _).mono ?_; rintro e w2 ⟨a1, c1, rfl, hm1⟩; have HM1 := Lib.hid hm1; have HST2 := Lib.hid (HST1.out.on hm1.kept); clear hm1)
            | (at_builtin; refine wpList_enc rfl (.tmp 20) (.tmp 29) rfl w q _ _ D rfl HST2.out _ (varW X8) rfl (by have := HM1.out.src (P := Try.prog) (Kept.refl _ _) Try.underlying25 (bys_one _); exact this) (by have := HAL.out; have := (varW_le X8).2; omega) ?_; intro a5 n5 c5 w3 hn5 hst3; have HN5 := Lib.hid hn5; have HST3 := Lib.hid hst3; clear hn5 hst3))
          have hbx2 := box4 HST3.out.box
          clear hbx1
          go_wp2
          go_loopg [4, 42] 8 (fun x s4 s42 wr2 => ∃ j : Nat, j ≤ 8 ∧ x = 8 - j ∧ s42 = .int .i64 j ∧ EncSt w wr2 q #[.int .i64 (NN : Int), .int .i64 (TT : Int), .int .u64 (pv : Int), .slice pa pl pc] s4 (D ++ varW X8 ++ (fixW pv).take j))
          case atStart => exact ⟨0, by omega, rfl, rfl, by rw [List.take_zero, List.append_nil]; exact HST3.out⟩
          case round =>
            obtain ⟨j, hj, rfl, rfl, hst⟩ := hrel
            obtain ⟨a8, c8, e8⟩ := hst.m.slice
            rw [bys_length] at e8
            subst e8
            have HSTJ := Lib.hid hst
            obtain ⟨m8, hm8⟩ : ∃ m, m = (D ++ varW X8 ++ (fixW pv).take j).length := ⟨_, rfl⟩
            have HM8 := Lib.hid hm8
            rw [← hm8] at HSTJ ⊢
            clear hst hm8
            have hbx3 := box4 HSTJ.out.box
            by_cases hj8 : j < 8
            · have HTK := Lib.hid (take_snocN (fixW pv) j (by unfold fixW; rw [fixF_length]; exact hj8))
              have hgd : (fixW pv).getD j 0 = pv / 256 ^ j % 256 := fixF_getD 8 pv j hj8
              obtain ⟨C, hC⟩ : ∃ C, C = (fixW pv).getD j 0 := ⟨_, rfl⟩
              rw [← hC] at HTK hgd
              obtain ⟨DD, hDD⟩ : ∃ x, x = pv / 256 ^ j := ⟨_, rfl⟩
              rw [← hDD] at hgd
              obtain ⟨S8, hS8⟩ : ∃ S, S = 8 * j := ⟨_, rfl⟩
              have hw8 : IntKind.i64.wrap (8 * (j : Int)) = (S8 : Int) := by rw [IntWalk.i64_in _ ⟨by omega, by omega⟩]; omega
              have hw9 : 8 * (j : Int) = (S8 : Int) := by omega
              have hsh2 : (pv : Int) / 2 ^ S8 = (DD : Int) := by rw [hDD, pow8, hS8]; simp
              have hsh1 : (pv : Int) / 2 ^ min S8 64 = (DD : Int) := by rw [Nat.min_eq_left (by omega)]; exact hsh2
              have hbc : (DD : Int) % 256 = (C : Int) := by omega
              have s0 : (0 : Int) ≤ (S8 : Int) := by omega
              have sj : (j : Int) < 8 := by omega
              have HJ := Lib.hid hj8
              have HSRC8 : Hid (Src Try.prog 1 25 (.slice (some ⟨wr.heap.size, 0, none⟩) 1 1) (bys [C]).length (bys [C]) (wr.alloc (.cells #[.int .u8 (C : Int)] 5))) := Lib.hid (src_one8 wr (.int .u8 (C : Int)) rfl)
              have HB8 := Lib.hid (show (D ++ varW X8 ++ (fixW pv).take j).length + [C].length ≤ 1000000000000 by
                rw [List.length_append, List.length_append]
                have := HAL.out; have := (varW_le X8).2; have := List.length_take_le j (fixW pv)
                simp only [List.length_singleton]
                omega)
              clear hC hgd hDD hS8 hj8 hj
              go_wp2_with (at_builtin; refine wpList_enc rfl (.tmp 45) (.tmp 52) rfl w q _ _ (D ++ varW X8 ++ (fixW pv).take j) rfl (HSTJ.out.on ((Kept.refl _ _).alloc _)) _ [C] rfl HSRC8.out HB8.out ?_; intro a9 n9 c9 w9 hn9 hst9; have HST9 := Lib.hid hst9; clear hn9 hst9)
              go_roundg (8 - (j + 1))
              case measure => have := HJ.out; omega
              case rel => exact ⟨j + 1, by have := HJ.out; omega, rfl, by go_num, by rw [HTK.out, ← List.append_assoc]; exact HST9.out⟩
            · have hj2 : j = 8 := by omega
              subst hj2
              clear hj hj8
              go_wp2
              go_roundg (n - (i + 1))
              case measure => have := HIN.out; omega
              case rel => exact ⟨i + 1, HIN.out, rfl, by go_num, HEB.out, by
                rw [HRT.out, fldF_1 _ _ HXX.out (by rw [HTY.out, HT.out]; rfl), ← List.append_assoc, ← HPP.out.2.2.1]
                have h := HSTJ.out.m
                rw [show (fixW pv).take 8 = fixW pv from List.take_of_length_le (by unfold fixW; rw [fixF_length]; omega)] at h
                exact h⟩
        · have a0 : ((TT : Int) == 0) = false := beqF (by omega)
          have a1 : ((TT : Int) == 1) = false := beqF (by omega)
          have a2 : ((TT : Int) == 2) = true := beqT (by omega)
          have HPL1 := Lib.hid (show pl ≤ 1000 by have := HPL.out; have := HPP.out.2.2.2.2.2; omega)
          have hpl9 : (pl : Int) ≤ 1000 := by have := HPL1.out; omega
          have HBP := Lib.hid (show By w pa pc p.r.b by rw [HPP.out.2.2.2.1, HPP.out.2.2.2.2.1]; exact HOK.out.by_)
          have HPE := Lib.hid HPP.out.2.2.2.2.2
          have HT := Lib.hid h0
          clear h0
          go_upto_region 5 with fail
          rw [← HWE.out, ← HQ.out]
          have hbx := box4 HST.out.box
          go_upto_region 8 with (go_at_call 20; refine (HCK.out _).mono ?_; rintro e w1 ⟨rfl, hk1⟩; have HST1 := Lib.hid (HST.out.on hk1); have hbx1 := box4 HST1.out.box; clear hk1 hbx)
          go_upto_region 9 with (first
            | (go_at_call 19; refine (wvar_any X8 HXB.out _).mono ?_; rintro e w2 ⟨a1, c1, rfl, hm1⟩; have HM1 := Lib.hid hm1; have HST2 := Lib.hid (HST1.out.on hm1.kept); clear hm1)
            | (at_builtin; refine wpList_enc rfl (.tmp 20) (.tmp 29) rfl w q _ _ D rfl HST2.out _ (varW X8) rfl (by have := HM1.out.src (P := Try.prog) (Kept.refl _ _) Try.underlying25 (bys_one _); exact this) (by have := HAL.out; have := (varW_le X8).2; omega) ?_; intro a5 n5 c5 w3 hn5 hst3; have HN5 := Lib.hid hn5; have HST3 := Lib.hid hst3; clear hn5 hst3))
          have hbx2 := box4 HST3.out.box
          clear hbx1
          go_upto_region 20 with (first
            | (go_at_call 19; refine (wvar_any pl (by have := HPL1.out; omega) _).mono ?_; rintro e w4 ⟨a6, c6, rfl, hm4⟩; have HM4 := Lib.hid hm4; have HST4 := Lib.hid (HST3.out.on hm4.kept); clear hm4)
            | (at_builtin; refine wpList_enc rfl (.tmp 57) (.tmp 62) rfl w q _ _ (D ++ varW X8) rfl HST4.out _ (varW pl) rfl (by have := HM4.out.src (P := Try.prog) (Kept.refl _ _) Try.underlying25 (bys_one _); exact this) (by rw [List.length_append]; have := HAL.out; have := (varW_le X8).2; have := (varW_le pl).2; omega) ?_; intro a7 n7 c7 w5 hn7 hst5; have HN7 := Lib.hid hn7; have HST5 := Lib.hid hst5; clear hn7 hst5))
          have hbx5 := box4 HST5.out.box
          clear hbx2
          go_wp2_with (at_builtin; refine wpList_enc rfl (.tmp 64) (.tmp 66) rfl w q _ _ (D ++ varW X8 ++ varW pl) rfl HST5.out _ p.r.b rfl (by have := ((HBP.out.kept HST5.out.m.kept).at_).src (P := Try.prog) Try.underlying25 (bys_one _); rw [← HPE.out] at this; exact this) (by rw [List.length_append, List.length_append]; have := HAL.out; have := (varW_le X8).2; have := (varW_le pl).2; have := HPL1.out; have := HPE.out; omega) ?_; intro a9 n9 c9 w9 hn9 hst9; have HST9 := Lib.hid hst9; clear hn9 hst9)
          go_roundg (n - (i + 1))
          case measure => have := HIN.out; omega
          case rel => exact ⟨i + 1, HIN.out, rfl, by go_num, HEB.out, by
            rw [HRT.out, fldF_2 _ _ HXX.out (by rw [HTY.out, HT.out]; rfl), ← List.append_assoc, ← List.append_assoc, ← HPE.out]; exact HST9.out.m⟩
    · have hin2 : i = n := by omega
      have HUU := Lib.hid (show 0 = E ∧ D = X by
        have h := HEN.out
        rw [List.drop_eq_nil_of_le (by have := HN.out; omega)] at h
        have h0 : 0 = E := h
        refine ⟨h0, ?_⟩
        rw [HX.out.2 h0.symm, HD.out, List.take_of_length_le (by have := HN.out; omega)])
      subst hin2
      clear hd hin
      go_wp2
      go_ret2
      obtain ⟨rfl, rfl⟩ := HUU.out
      have hm := HM.out
      rw [HMM.out] at hm ⊢
      exact ⟨a4, c4, rfl, hm⟩
end Go.Proofs.Ytdgpeganmgcjiaa
