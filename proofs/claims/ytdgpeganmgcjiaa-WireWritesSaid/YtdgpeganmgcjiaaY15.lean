/- package limnographref30: Same, Var, fix. -/
import Derived.Test.YtdgpeganmgcjiaaY14
import Derived.Test.YtdgpeganmgcjiaaST
import Derived.Deep.QuietTactic
import Derived.BigQuiet
namespace Go.Proofs.Ytdgpeganmgcjiaa
open Go.RowKit
attribute [local go_sem ↓] Go.wp_at_zero Go.wp_at_succ

set_option maxHeartbeats 4000000 in
set_option maxRecDepth 100000 in
theorem same30_any (ao bo : Option Addr) (c d : Nat) (A B : List PR) (w : World) (ha : FldsAt w ao A) (hb : FldsAt w bo B) (he : recsR A = recsR B) (hl : A.length ≤ 1000000000) :
    Calls Try.prog 11 #[.slice ao A.length c, .slice bo B.length d] w fun e w' => e = .returned (.bool true) ∧ Kept (fun _ => False) w w' := by
  have hBA : B.length = A.length := by have := congrArg List.length he; simpa [recsR] using this.symm
  have HA := Lib.hid ha
  have HB := Lib.hid hb
  have HE := Lib.hid he
  have HBA := Lib.hid hBA
  rw [hBA]
  obtain ⟨N, hN⟩ : ∃ N, N = A.length := ⟨_, rfl⟩
  have HN := Lib.hid hN
  rw [← hN] at hl ⊢
  clear ha hb he hBA hN
  have en : ((N : Int) != (N : Int)) = false := by simp
  go_enter Try.func11, Try.ntmps11
  go_wp2
  go_loopw [5] (fun t wr => ∃ j : Nat, j ≤ N ∧ t = .int .i64 j ∧ Kept (fun _ => False) w wr) (fun t _ => N - (intOf t).toNat)
  case atStart => exact ⟨0, by omega, rfl, Kept.refl _ _⟩
  case round =>
    obtain ⟨j, hj, rfl, hk⟩ := hrel
    have HK := Lib.hid hk
    clear hk
    by_cases hd : j < N
    · have hd' : (j : Int) < (N : Int) := by omega
      have hj0 : (0 : Int) ≤ (j : Int) := by omega
      obtain ⟨g, o, p, rfl, hi, hat, hok⟩ := (HA.out.kept HK.out).get (i := j) (by have := HN.out; omega)
      obtain ⟨g2, o2, p2, rfl, hi2, hat2, hok2⟩ := (HB.out.kept HK.out).get (i := j) (by have := HN.out; have := HBA.out; omega)
      have hr : p.r = p2.r := by
        have h1 : (recsR A)[j]? = some p.r := by unfold recsR; rw [List.getElem?_map, hi]; rfl
        have h2 : (recsR B)[j]? = some p2.r := by unfold recsR; rw [List.getElem?_map, hi2]; rfl
        rw [HE.out, h2] at h1
        injection h1 with h1
        exact h1.symm
      have hc0 := hat.c0
      have hc1 := hat.c1
      have hc2 := hat.c2
      have hc3 := hat.c3
      have hd0 := hat2.c0
      have hd1 := hat2.c1
      have hd2 := hat2.c2
      have hd3 := hat2.c3
      rw [← hr] at hd0 hd1 hd2 hd3
      have q2 := fun n => (hok.by_.kept ((Kept.refl (fun _ => False) wr).drewN n)).conv
      have q4 := fun n => (hok2.by_.kept ((Kept.refl (fun _ => False) wr).drewN n)).conv
      rw [← hr] at q4
      obtain ⟨S, hS⟩ : ∃ S, S = strN p.r.b := ⟨_, rfl⟩
      rw [← hS] at q2 q4
      obtain ⟨pn, hpn⟩ : ∃ x, x = p.r.num := ⟨_, rfl⟩
      obtain ⟨pt, hpt⟩ : ∃ x, x = p.r.ty := ⟨_, rfl⟩
      obtain ⟨pv, hpv⟩ : ∃ x, x = p.r.v := ⟨_, rfl⟩
      obtain ⟨pa, hpa⟩ : ∃ x, x = p.a := ⟨_, rfl⟩
      obtain ⟨pc, hpc⟩ : ∃ x, x = p.c := ⟨_, rfl⟩
      obtain ⟨pl, hpl⟩ : ∃ x, x = p.r.b.length := ⟨_, rfl⟩
      obtain ⟨pa2, hpa2⟩ : ∃ x, x = p2.a := ⟨_, rfl⟩
      obtain ⟨pc2, hpc2⟩ : ∃ x, x = p2.c := ⟨_, rfl⟩
      rw [← hpn] at hc0 hd0
      rw [← hpt] at hc1 hd1
      rw [← hpv] at hc2 hd2
      rw [← hpa, ← hpc, ← hpl] at hc3 q2
      rw [← hpa2, ← hpc2, ← hpl] at hd3 q4
      have n1 : (pn != pn) = false := by simp
      have n2 : (pt != pt) = false := by simp
      have n3 : ((pv : Int) != (pv : Int)) = false := by simp
      clear hat hat2 hok hok2 hi hi2 hr hS hpn hpt hpv hpa hpc hpl hpa2 hpc2
      go_wp2
      go_quiet (fail)
      go_wp2
      go_roundw
      case rel => exact ⟨j + 1, hd, by go_num, HK.out.drewN _⟩
      case measure => simp [intOf]; omega
    · obtain rfl : j = N := by omega
      clear hd
      go_wp2
      go_ret
      exact ⟨rfl, HK.out⟩

/-- A slice of one byte. -/
theorem mine_one (w : World) (n : Nat) : Mine w (w.alloc (.cells #[.int .u8 (n : Int)] 5)) 5 (.slice (some ⟨w.heap.size, 0, none⟩) 1 1) (bys [n]) :=
  ⟨own_fresh w _ 1 [.int .u8 (n : Int)] 1 rfl (by simp [maxLen]), (Kept.refl _ _).alloc _⟩

set_option maxHeartbeats 1000000 in
theorem rvar_ind (k : Nat) : ∀ (v : Nat) (_ : v < 2 * 128 ^ k) (_ : k ≤ 9) (w : World),
    Calls Try.prog 21 #[.int .u64 (v : Int)] w fun e w' => ∃ a c, e = .returned (.slice a (varF k v).length c) ∧ Mine w w' 5 (.slice a (varF k v).length c) (bys (varF k v)) := by
  induction k with
  | zero =>
    intro v hv _ w
    have hv : (v : Int) < 128 := by omega
    have e : IntKind.u8.wrap (v : Int) = (v : Int) := by rw [IntKind.wrap_u8]; omega
    have hm := Lib.hid (mine_one w v)
    go_enter Try.func21, Try.ntmps21
    go_wp2
    go_ret
    exact ⟨_, _, rfl, hm.out⟩
  | succ k ih =>
    intro v hv hk w
    by_cases h : v < 128
    · have h1 : (v : Int) < 128 := by omega
      have e : IntKind.u8.wrap (v : Int) = (v : Int) := by rw [IntKind.wrap_u8]; omega
      have hm := Lib.hid (mine_one w v)
      have HV := Lib.hid (show varF (k + 1) v = [v] by rw [varF, if_pos h])
      clear ih hv hk h
      go_enter Try.func21, Try.ntmps21
      go_wp2
      go_ret
      rw [HV.out]
      exact ⟨_, _, rfl, hm.out⟩
    · have h1 : ¬ (v : Int) < 128 := by omega
      have HV := Lib.hid (show varF (k + 1) v = (v % 128 + 128) :: varF k (v / 128) by rw [varF, if_neg h])
      obtain ⟨U, hU⟩ : ∃ U, U = v / 128 := ⟨_, rfl⟩
      obtain ⟨C, hC⟩ : ∃ C, C = v % 128 + 128 := ⟨_, rfl⟩
      have HIH := Lib.hid (fun w => ih U (by rw [hU]; rw [Nat.pow_succ] at hv; omega) (by omega) w)
      have hl := (varF_length k U).2
      have HL := Lib.hid (show (bys [C]).length + (bys (varF k U)).length ≤ 1000000000000 by rw [bys_length, bys_length]; simp; omega)
      rw [← hU, ← hC] at HV
      have hU1 : (v : Int) / 128 = (U : Int) := by omega
      have hU2 : IntKind.u64.wrap (U : Int) = (U : Int) := by have h9 : (128 : Nat) ^ k ≤ 128 ^ 8 := Nat.pow_le_pow_right (by omega) (by omega); have h8 : (128 : Nat) ^ 8 = 72057594037927936 := by decide
                                                              rw [IntKind.wrap_u64]; rw [Nat.pow_succ] at hv; omega
      have hC1 : 128 + (v : Int) % 128 = (C : Int) := by omega
      have hC2 : IntKind.u64.wrap (C : Int) = (C : Int) := by rw [IntKind.wrap_u64]; omega
      have hC3 : IntKind.u8.wrap (C : Int) = (C : Int) := by rw [IntKind.wrap_u8]; omega
      have hm := Lib.hid (mine_one w C)
      clear ih hv hk h hU hC hl
      go_enter Try.func21, Try.ntmps21
      go_wp2_with (first
        | (go_at_call 21; refine (HIH.out _).mono ?_; rintro e w1 ⟨a1, c1, rfl, hm1⟩; have HM1 := Lib.hid hm1; clear hm1)
        | (at_builtin; refine wpList_mine8 rfl (.tmp 12) (.tmp 15) rfl w _ (bys [C]) rfl (hm.out.on HM1.out.kept) _ (bys (varF k U)) rfl (by have := HM1.out.src (P := Try.prog) (Kept.refl _ _) Try.underlying25 (bys_one _); exact this) HL.out ?_; intro v6 w6 hm6; have HM6 := Lib.hid hm6; clear hm6))
      go_ret
      have hm6 := HM6.out
      rw [← bys_append] at hm6
      obtain ⟨a6, c6, e6⟩ := hm6.slice
      rw [bys_length] at e6
      rw [HV.out]
      rw [e6] at hm6 ⊢
      exact ⟨a6, c6, rfl, hm6⟩
theorem rvar_any (v : Nat) (hv : v < 18446744073709551616) (w : World) :
    Calls Try.prog 21 #[.int .u64 (v : Int)] w fun e w' => ∃ a c, e = .returned (.slice a (varW v).length c) ∧ Mine w w' 5 (.slice a (varW v).length c) (bys (varW v)) :=
  rvar_ind 9 v (by rw [← p18]; exact hv) (by omega) w

theorem fixF_snoc (k v : Nat) : fixF (k + 1) v = fixF k v ++ [v / 256 ^ k % 256] := by
  induction k generalizing v with
  | zero => simp [fixF]
  | succ k ih =>
    rw [fixF, ih (v / 256)]
    simp only [fixF, List.cons_append]
    rw [Nat.div_div_eq_div_mul, ← Nat.pow_succ']
set_option maxHeartbeats 1000000 in
set_option maxRecDepth 100000 in
theorem rfix_any (v : Nat) (hv : v < 18446744073709551616) (w : World) :
    Calls Try.prog 22 #[.int .u64 (v : Int)] w fun e w' => e = .returned (.string (strN (fixW v))) ∧ Kept (fun _ => False) w w' := by
  have HF0 : Hid (ByteArray.empty = strN (fixF 0 v)) := Lib.hid rfl
  have HFW : Hid (fixW v = fixF 8 v) := Lib.hid rfl
  go_enter Try.func22, Try.ntmps22
  go_wp2
  go_loopg [0, 3, 4] 8 (fun g s0 s3 s4 wr => ∃ (j u : Nat), j ≤ 8 ∧ g = 8 - j ∧ s4 = .int .i64 j ∧ s0 = .int .u64 (u : Int) ∧ u = v / 256 ^ j ∧ s3 = .string (strN (fixF j v)) ∧ Kept (fun _ => False) w wr)
  case atStart => exact ⟨0, v, by omega, rfl, rfl, rfl, by simp, rfl, Kept.refl _ _⟩
  case round =>
    obtain ⟨j, u, hj, rfl, rfl, rfl, hu, rfl, hk⟩ := hrel
    have HK := Lib.hid hk
    by_cases hd : j < 8
    · have hd' : (j : Int) < 8 := by omega
      have HS := Lib.hid (show fixF (j + 1) v = fixF j v ++ [u % 256] by rw [fixF_snoc, hu])
      obtain ⟨C, hC⟩ : ∃ C, C = u % 256 := ⟨_, rfl⟩
      obtain ⟨U, hU⟩ : ∃ U, U = u / 256 := ⟨_, rfl⟩
      rw [← hC] at HS
      have hC1 : (u : Int) % 256 = (C : Int) := by omega
      have hC2 : IntKind.u8.wrap (C : Int) = (C : Int) := by rw [IntKind.wrap_u8]; omega
      have hU1 : (u : Int) / 256 = (U : Int) := by omega
      have hU2 : IntKind.u64.wrap (U : Int) = (U : Int) := by have h9 := Nat.div_le_self v (256 ^ j); rw [IntKind.wrap_u64]; omega
      have HU := Lib.hid (show U = v / 256 ^ (j + 1) by rw [hU, hu, Nat.div_div_eq_div_mul, Nat.pow_succ])
      have QC := mine_conv (mine_one wr C)
      have QA : ∀ w, (Op.stringOp .add (strN (fixF j v)) (strN [C])).run Try.prog w = .ok (.string (strN (fixF (j + 1) v))) w := fun w => by
        rw [HS.out]; exact strN_add w _ _ (by rw [fixF_length]; simp; omega)
      obtain ⟨S, hS⟩ : ∃ S, S = strN (fixF j v) := ⟨_, rfl⟩
      obtain ⟨S1, hS1⟩ : ∃ S, S = strN [C] := ⟨_, rfl⟩
      obtain ⟨S2, hS2⟩ : ∃ S, S = strN (fixF (j + 1) v) := ⟨_, rfl⟩
      rw [← hS, ← hS1, ← hS2] at QA
      rw [← hS1] at QC
      rw [← hS]
      have HSS := Lib.hid hS2
      have HD := Lib.hid hd
      clear hu hk hC hU hS hS1 hS2 hj
      go_wp2
      go_roundg (8 - (j + 1))
      case measure => have := HD.out; omega
      case rel => exact ⟨j + 1, U, by have := HD.out; omega, rfl, by go_num, rfl, HU.out, by rw [HSS.out], HK.out.alloc _⟩
    · obtain rfl : j = 8 := by omega
      clear hd hj hu hk
      go_wp2
      go_ret
      rw [HFW.out]
      exact ⟨rfl, HK.out⟩
end Go.Proofs.Ytdgpeganmgcjiaa
