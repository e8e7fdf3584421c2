/- Layer 6: the walk of 'VarySmall'. -/
import Derived.Test.YtaagjedkojlbpaaDoorV25
namespace Go.Proofs.YtaagjedkojlbpaaDoor
open Go.RowKit
attribute [local go_sem ↓] Go.wp_at_zero Go.wp_at_succ

/-- Small forms one behind the other. -/
def smA (l : List Nat) : Nat → List Bool
  | 0 => []
  | i + 1 => smA l i ++ smallB (l.getD i 0)
def smB (l : List Nat) : Nat → List Bool
  | 0 => []
  | i + 1 => smB l i ++ smallB (zigN (wrap64 (l.getD i 0)))
theorem smA_length (l : List Nat) (i : Nat) : (smA l i).length ≤ 66 * i := by
  induction i with
  | zero => simp [smA]
  | succ i ih => have := smallB_length (l.getD i 0); simp only [smA, List.length_append]; omega
theorem smB_length (l : List Nat) (i : Nat) : (smB l i).length ≤ 66 * i := by
  induction i with
  | zero => simp [smB]
  | succ i ih => have := smallB_length (zigN (wrap64 (l.getD i 0))); simp only [smB, List.length_append]; omega
def uvals (l : List Nat) : List Value := l.map fun (n : Nat) => Value.int .u64 (n : Int)
theorem uvals_get {l : List Nat} {j : Nat} (h : j < l.length) : (uvals l)[j]? = some (.int .u64 ((l.getD j 0 : Nat) : Int)) := by
  simp [uvals, List.getD_eq_getElem?_getD, List.getElem?_eq_getElem h]
theorem getD_u64 {l : List Nat} (h : ∀ x ∈ l, x < 18446744073709551616) (j : Nat) : l.getD j 0 < 18446744073709551616 := by
  rw [List.getD_eq_getElem?_getD]
  by_cases hj : j < l.length
  · rw [List.getElem?_eq_getElem hj]; exact h _ (List.getElem_mem hj)
  · rw [List.getElem?_eq_none (by omega)]; decide
theorem wrap64_range (x : Int) : I64 (wrap64 x) := by unfold I64 wrap64; omega

theorem refBytesStr (v : Value) (bs : List Bool) (w : World) (hv : SlAt w v (ints bs)) (hl : bs.length ≤ 1000000000) :
    Calls Tryd.prog 18 #[v] w fun e w' => ∃ vb, e = .returned vb ∧ (∀ w'', Kept (fun _ => False) w' w'' → (convert 33 9 vb).run Tryd.prog w'' = .ok (.string (strN (packB bs))) w'') ∧ Kept (fun _ => False) w w' := by
  refine (refBytes_any v bs w hv hl).mono ?_
  rintro e w6 ⟨vb, rfl, ho, hk⟩
  exact ⟨vb, rfl, fun w'' hk2 => run_strN ((SlAt.ofOwn ho).kept hk2 (fun _ _ x => x)) 33 5 9 Tryd.underlying33 Tryd.underlying5 Tryd.underlying9, hk⟩

set_option maxHeartbeats 4000000 in
set_option maxRecDepth 100000 in
theorem varySmall_walk0 (ao : Option Addr) (ca : Nat) (l : List Nat) (W : World) (hv : SlAt W (.slice ao l.length ca) (uvals l)) (hl : l.length ≤ 60) (hb : ∀ x ∈ l, x < 18446744073709551616) (HT : Tabs W) :
    Calls Tryd.prog 3 #[.slice ao l.length ca] W fun e w' => e = .returned (.bool true) ∧ Kept (fun _ => False) W w' := by
  have HAW := Lib.hid (awake6_any W HT)
  have HTT := Lib.hid HT
  have hv0 := Lib.hid hv
  have HBB := Lib.hid (getD_u64 hb)
  have hlt := HT.lt
  have q60 : ¬ (60 : Int) < (l.length : Int) := by omega
  have q60b : decide (60 < l.length) = false := decide_eq_false (by omega)
  have HBN := Lib.hid bnew_any
  clear HT hv hb
  go_enter Tryd.func3, Tryd.ntmps3
  go_wp2_with fail
  refine HAW.out.mono ?_
  rintro e w0 ⟨rfl, k0⟩
  have K0 := Lib.hid k0
  clear k0
  go_wp2_with fail
  have HT0 := HTT.out.kept K0.out
  refine (HBN.out w0).mono ?_
  rintro e w1 ⟨rfl, hw1⟩
  have H0 := bnew_at W.heap.size w0 K0.out.size
  rw [← hw1] at H0
  have k1 : Kept (fun _ => False) w0 w1 := by rw [hw1]; exact (Kept.refl _ _).alloc _
  have hs1 : w1.heap.size = w0.heap.size + 1 := by rw [hw1]; simp
  obtain ⟨p, hp⟩ : ∃ p, p = w0.heap.size := ⟨_, rfl⟩
  rw [← hp] at H0 hs1 ⊢
  have HS1 := Lib.hid hs1
  clear hw1 hs1 hp HT0
  go_wp2_with fail
  refine (HBN.out w1).mono ?_
  rintro e w2 ⟨rfl, hw2⟩
  have H1 := bnew_at W.heap.size w1 (Nat.le_trans K0.out.size k1.size)
  rw [← hw2] at H1
  have k2 : Kept (fun _ => False) w1 w2 := by rw [hw2]; exact (Kept.refl _ _).alloc _
  obtain ⟨q, hq⟩ : ∃ q, q = w1.heap.size := ⟨_, rfl⟩
  rw [← hq] at H1 ⊢
  have K2 : Kept (fun _ => False) W w2 := (K0.out.trans k1).trans k2
  have HTWO : Two W w2 p q (.slice none 0 0) (.slice none 0 0) (smA l 0) (smB l 0) (.slice none 0 0) (.slice none 0 0) (smA l 0) (smB l 0) :=
    ⟨H0.keptF k2, H1, (by have := HS1.out; omega), (fun k e => by cases e), Mine.nil' _ K2, Mine.nil' _ K2, (fun k e => by cases e)⟩
  have HTWO := Lib.hid HTWO
  clear K2 H0 H1 k1 k2 hw2 hq
  go_wp2
  go_loopg [5, 6, 7] l.length (fun g s5 s6 s7 wr => ∃ i : Nat, i ≤ l.length ∧ g = l.length - i ∧ s7 = .int .i64 i ∧ ∃ v1 v2, Two W wr p q v1 v2 (smA l i) (smB l i) s5 s6 (smA l i) (smB l i))
  case atStart => exact ⟨0, Nat.zero_le _, rfl, rfl, _, _, HTWO.out⟩
  case round =>
    obtain ⟨i, hil, rfl, rfl, v1, v2, htwo⟩ := hrel
    have HI := Lib.hid htwo
    clear htwo HTWO
    by_cases hd : i < l.length
    · have hdi : (i : Int) < (l.length : Int) := by omega
      have i0 : (0 : Int) ≤ (i : Int) := by omega
      have HD := Lib.hid hd
      obtain ⟨g, off, rfl, c0⟩ := (hv0.out.kept HI.out.ma.kept (fun _ _ x => x)).elem (uvals_get hd)
      have hx := HBB.out i
      have HNA : Hid (smA l (i + 1) = smA l i ++ smallB (l.getD i 0)) := Lib.hid rfl
      have HNB : Hid (smB l (i + 1) = smB l i ++ smallB (zigN (wrap64 (l.getD i 0)))) := Lib.hid rfl
      have hla := smA_length l i
      have hlb := smB_length l i
      have HCELL := Lib.hid fun w' (h : Kept (fun _ => False) W w') => (hv0.out.kept h (fun _ _ x => x)).elem (uvals_get hd)
      obtain ⟨x, hxe⟩ : ∃ x, x = l.getD i 0 := ⟨_, rfl⟩
      rw [← hxe] at c0 hx HNA HNB HCELL
      have HC2 := Lib.hid fun w' (h : Kept (fun _ => False) W w') => show w'.cell? ⟨g, off + i, none⟩ = some (.int .u64 (x : Int)) from by
        obtain ⟨_, _, e', b⟩ := HCELL.out w' h
        injection e' with e'; injection e' with e1 e2; subst e1; subst e2
        exact b
      have hy := wrap64_range (x : Int)
      have hyw : IntKind.i64.wrap (x : Int) = wrap64 (x : Int) := IntWalk.i64_left _
      obtain ⟨y, hye⟩ : ∃ y, y = wrap64 (x : Int) := ⟨_, rfl⟩
      rw [← hye] at hy hyw HNB
      obtain ⟨hz1, hz2⟩ := zigN_eq y hy.1 hy.2
      have HZ := Lib.hid (refZig_any y hy.1 hy.2)
      rw [hz1] at HZ
      have HPI := Lib.hid fun w' v2 B (h : BwAt w' W.heap.size q v2 B) (hk : Kept (fun _ => False) W w') (hB : B.length ≤ 900000000) => varyPutInt_any W.heap.size q v2 B y (zigN y) w' h (by omega) hk.size hy.1 hy.2 hz1 hz2 hB (HTT.out.kept hk).c
      obtain ⟨Z, hZ⟩ : ∃ Z, Z = zigN y := ⟨_, rfl⟩
      rw [← hZ] at HZ HNB HPI
      have hlx := smallB_length x
      have hlz := smallB_length Z
      have HS1 := Lib.hid (small_any x hx)
      have HS2 := Lib.hid (small_any Z (by omega))
      have HP1 := Lib.hid fun w' v1 A (h : BwAt w' W.heap.size p v1 A) (hk : Kept (fun _ => False) W w') (hA : A.length ≤ 900000000) => varyPut_any W.heap.size p v1 A x w' h (by omega) hk.size hx hA (HTT.out.kept hk).c
      clear hd hxe hye hy hz1 hz2 hZ
      go_wp2_with fail
      refine (HP1.out _ _ _ HI.out.b1 HI.out.ma.kept (by omega)).mono ?_
      rintro e wa ⟨rfl, ht⟩
      obtain ⟨v1a, h2⟩ := HI.out.put1 ht
      have H2 := Lib.hid h2
      have c2 := HC2.out _ h2.ma.kept
      clear ht h2 c0
      go_wp2_with fail
      refine (HPI.out _ _ _ H2.out.b2 H2.out.ma.kept (by omega)).mono ?_
      rintro e wb ⟨rfl, ht⟩
      obtain ⟨v2a, h3⟩ := H2.out.put2 ht
      have H3 := Lib.hid h3
      have c3 := HC2.out _ h3.ma.kept
      clear ht h3 c2
      go_wp2_with fail
      refine (HS1.out _).mono ?_
      rintro e wc ⟨vs, rfl, ho, hk⟩
      have H4 := Lib.hid (H3.out.on hk)
      have R4 := Lib.hid (SlAt.ofOwn ho)
      clear ho hk c3
      go_wp2_with (at_builtin; refine wpList_mineI2 rfl (.tmp 34) (.tmp 39) rfl W _ _ rfl H4.out.ma _ _ rfl (R4.out.src (P := Tryd.prog) Tryd.underlying26 (ints_one _)) (by simp; omega) ?_; intro v6 w6 hm6 hk6 ha6; have H6 := Lib.hid (H4.out.add1 hm6 hk6 ha6); have c6 := HC2.out _ hm6.kept; clear hm6 hk6 ha6)
      go_wp2_with (first
        | (go_at_call 15; refine (HZ.out _).mono ?_; rintro e w' ⟨rfl, rfl⟩)
        | (go_at_call 14; refine (HS2.out _).mono ?_; rintro e w7 ⟨vs7, rfl, ho, hk⟩; have H7 := Lib.hid (H6.out.on hk); have R7 := Lib.hid (SlAt.ofOwn ho); clear ho hk)
        | (at_builtin; refine wpList_mineI2 rfl (.tmp 41) (.tmp 48) rfl W _ _ rfl H7.out.mb _ _ rfl (R7.out.src (P := Tryd.prog) Tryd.underlying26 (ints_one _)) (by simp; omega) ?_; intro v8 w8 hm8 hk8 ha8; have H8 := Lib.hid (H7.out.add2 hm8 hk8 ha8); clear hm8 hk8 ha8))
      go_roundg (l.length - (i + 1))
      case measure => have := HD.out; omega
      case rel => exact ⟨i + 1, HD.out, rfl, by go_num, _, _, by rw [HNA.out, HNB.out]; exact H8.out⟩
    · obtain rfl : i = l.length := by omega
      have hla := smA_length l l.length
      have hlb := smB_length l l.length
      obtain ⟨A, hA⟩ : ∃ A, A = smA l l.length := ⟨_, rfl⟩
      obtain ⟨B, hB⟩ : ∃ B, B = smB l l.length := ⟨_, rfl⟩
      rw [← hA, ← hB] at HI
      rw [← hA] at hla
      rw [← hB] at hlb
      obtain ⟨a5, c5, rfl⟩ := HI.out.ma.slice
      obtain ⟨a6, c6, rfl⟩ := HI.out.mb.slice
      have HL1 := Lib.hid fun w' (h : Kept (fun _ => False) wr w') => bwlen_any _ _ _ _ w' (HI.out.on h).b1
      have HL2 := Lib.hid fun w' (h : Kept (fun _ => False) wr w') => bwlen_any _ _ _ _ w' (HI.out.on h).b2
      have HB1 := Lib.hid fun w' (h : Kept (fun _ => False) wr w') => bytesStr _ w' _ _ _ (HI.out.on h).b1 (by omega)
      have HB2 := Lib.hid fun w' (h : Kept (fun _ => False) wr w') => bytesStr _ w' _ _ _ (HI.out.on h).b2 (by omega)
      have HR1 := Lib.hid fun w' (h : Kept (fun _ => False) wr w') => refBytesStr _ A w' (HI.out.on h).ma.at_ (by omega)
      have HR2 := Lib.hid fun w' (h : Kept (fun _ => False) wr w') => refBytesStr _ B w' (HI.out.on h).mb.at_ (by omega)
      have HIK := Lib.hid HI.out.ma.kept
      obtain ⟨S1, hS1⟩ : ∃ S, S = strN (packB A) := ⟨_, rfl⟩
      obtain ⟨S2, hS2⟩ : ∃ S, S = strN (packB B) := ⟨_, rfl⟩
      rw [← hS1] at HB1 HR1
      rw [← hS2] at HB2 HR2
      have kd : Kept (fun _ => False) wr wr.drew := (Kept.refl _ wr).drew
      obtain ⟨na, hna⟩ : ∃ n, n = A.length := ⟨_, rfl⟩
      obtain ⟨nb, hnb⟩ : ∃ n, n = B.length := ⟨_, rfl⟩
      simp only [ints_length] at HR1 HR2
      rw [← hna] at HL1 HR1
      rw [← hnb] at HL2 HR2
      simp only [ints_length]
      rw [← hna, ← hnb]
      clear hA hB hS1 hS2 HI hla hlb hd hna hnb
      go_wp2
      go_region_with (first
        | (go_at_call_of 16 p; refine (HL1.out _ (by assumption)).mono ?_; rintro e w' ⟨rfl, rfl⟩)
        | (go_at_call_of 16 q; refine (HL2.out _ (by assumption)).mono ?_; rintro e w' ⟨rfl, rfl⟩)
        | (go_at_call_of 17 p; refine (HB1.out _ (by assumption)).mono ?_; rintro e w6 ⟨vb, rfl, hcv, k6⟩; have kc := Kept.trans (show Kept (fun _ => False) wr _ from by assumption) k6; have k66 := Kept.refl (fun _ => False) w6)
        | (go_at_call_of 17 q; refine (HB2.out _ (by assumption)).mono ?_; rintro e w6 ⟨vb, rfl, hcv, k6⟩; have kc := Kept.trans (show Kept (fun _ => False) wr _ from by assumption) k6; have k66 := Kept.refl (fun _ => False) w6)
        | (go_at_call_of 18 na; refine (HR1.out _ (by assumption)).mono ?_; rintro e w7 ⟨vc, rfl, hcw, k7⟩; have kc7 := Kept.trans (show Kept (fun _ => False) wr _ from by assumption) k7; have k77 := Kept.refl (fun _ => False) w7)
        | (go_at_call_of 18 nb; refine (HR2.out _ (by assumption)).mono ?_; rintro e w7 ⟨vc, rfl, hcw, k7⟩; have kc7 := Kept.trans (show Kept (fun _ => False) wr _ from by assumption) k7; have k77 := Kept.refl (fun _ => False) w7)
        | fail)
      all_goals
        go_wp2
        go_ret
        first
          | exact ⟨rfl, HIK.out.trans (by assumption)⟩
          | (trace_state; sorry)

set_option maxHeartbeats 1000000 in
theorem varySmall_walk (ao : Option Addr) (la ca : Nat) (z0 : List Int) (W : World) (h0 : IsRow .u64 W ao la ca z0) (HT : Tabs W) :
    Calls Tryd.prog 3 #[.slice ao la ca] W fun e w' => e = .returned (.bool true) ∧ Kept (fun _ => False) W w' := by
  obtain ⟨l, rfl, hx, hv⟩ := h0.slAtN 18446744073709551616 wf_u64
  by_cases hl : l.length ≤ 60
  · exact varySmall_walk0 ao ca l W hv hl hx HT
  · have HA := Lib.hid (awake6_any W HT)
    have q1 : (60 : Int) < (l.length : Int) := by omega
    clear h0 hx hv HT
    go_enter Tryd.func3, Tryd.ntmps3
    go_wp2_with fail
    refine HA.out.mono ?_
    rintro e w1 ⟨rfl, K1⟩
    go_wp2
    go_ret
    exact ⟨rfl, K1⟩
end Go.Proofs.YtaagjedkojlbpaaDoor
