/- Layer 11: the walk of 'LabelMatches' (written by tools/gen_XAN.py). -/
import Derived.Test.YtkgjkcfjkjkflaaDoorAM
import Derived.Test.YtkgjkcfjkjkflaaDoorAJ
namespace Go.Proofs.YtkgjkcfjkjkflaaDoor
open Go.RowKit
attribute [local go_sem ↓] Go.wp_at_zero Go.wp_at_succ

/-- What the law wants, so far. -/
def wantN (B : Bool) (L M : List Pr) (j : Nat) : Bool := B && (M.take j).all fun q => L.any fun p => eqP p q
theorem wantN_succ {B : Bool} {L M : List Pr} {j : Nat} {q : Pr} (h : M[j]? = some q) : wantN B L M (j + 1) = (wantN B L M j && L.any fun p => eqP p q) := by
  unfold wantN
  rw [List.take_add_one, h, Option.toList_some, List.all_append, Bool.and_assoc]
  simp
theorem wantN_all (n1 : ByteArray) (L : List Pr) (n2 : ByteArray) (M : List Pr) : wantN (decide (checkE n1 L = 0) && (decide (checkE n2 M = 0) && (n1.toList == n2.toList))) L M M.length = matB n1 L n2 M := by
  have e : (M.all fun q => L.any fun p => eqP p q) = !(M.any fun a => !contB L a) := by
    rw [Bool.eq_iff_iff, any_not, List.all_eq_true]
    constructor
    · intro h a ha
      obtain ⟨p, hp, e⟩ := List.any_eq_true.1 (h a ha)
      rw [← (eqP_iff _ _).1 e]
      exact hp
    · intro h q hq
      exact List.any_eq_true.2 ⟨q, h q hq, (eqP_iff _ _).2 rfl⟩
  unfold wantN matB
  rw [List.take_length, e]
  simp only [Bool.and_assoc]

set_option maxHeartbeats 8000000 in
theorem matches11_walk0 (name name2 : ByteArray) (ao bo : Option Addr) (c d : Nat) (L M : List Pr) (W : World) (hn : name.size ≤ 9223372036854775807) (hn2 : name2.size ≤ 9223372036854775807) (hr : PsAt W ao L) (hs : PsAt W bo M) (hc : L.length ≤ c) (hd : M.length ≤ d) (hl : L.length ≤ 9223372036854775807) (hm : M.length ≤ 9223372036854775807) :
    Calls Tryd.prog 6 #[.string name, .slice ao L.length c, .string name2, .slice bo M.length d] W fun e w' => e = .returned (.bool true) ∧ Kept (fun _ => False) W w' := by
  have HA := Lib.hid (awake11_any W)
  by_cases h1 : 100 < name.size
  · have q1 : (100 : Int) < (name.size : Int) := by omega
    have q2 : decide (100 < name.size) = true := decide_eq_true h1
    clear hr hs hc hd hl hm hn hn2 h1
    go_enter Tryd.func6, Tryd.ntmps6
    go_wp2_with fail
    refine HA.out.mono ?_
    rintro e w1 ⟨rfl, k1⟩
    go_wp2
    go_ret
    exact ⟨rfl, k1⟩
  have q1 : ¬ (100 : Int) < (name.size : Int) := by omega
  have q2 : decide (100 < name.size) = false := decide_eq_false h1
  by_cases h2 : 100 < name2.size
  · have q3 : (100 : Int) < (name2.size : Int) := by omega
    have q4 : decide (100 < name2.size) = true := decide_eq_true h2
    clear hr hs hc hd hl hm hn hn2 h1 h2
    go_enter Tryd.func6, Tryd.ntmps6
    go_wp2_with fail
    refine HA.out.mono ?_
    rintro e w1 ⟨rfl, k1⟩
    go_wp2
    go_ret
    exact ⟨rfl, k1⟩
  have q3 : ¬ (100 : Int) < (name2.size : Int) := by omega
  have q4 : decide (100 < name2.size) = false := decide_eq_false h2
  have HL1 := Lib.hid fun w' (k : Kept (fun _ => False) W w') => refLight11_any ao c L w' (hr.kept k) hl
  have HL2 := Lib.hid fun w' (k : Kept (fun _ => False) W w') => refLight11_any bo d M w' (hs.kept k) hm
  cases hlt : lightL L with
  | false =>
    rw [hlt] at HL1
    clear hr hs hc hd hl hm hn hn2 h1 h2 hlt HL2
    go_enter Tryd.func6, Tryd.ntmps6
    go_wp2_with fail
    refine HA.out.mono ?_
    rintro e w1 ⟨rfl, k1⟩
    go_wp2_with fail
    refine (HL1.out w1 k1).mono ?_
    rintro e w' ⟨rfl, rfl⟩
    go_wp2
    go_ret
    exact ⟨rfl, k1⟩
  | true =>
  rw [hlt] at HL1
  cases hlt2 : lightL M with
  | false =>
    rw [hlt2] at HL2
    clear hr hs hc hd hl hm hn hn2 h1 h2 hlt hlt2
    go_enter Tryd.func6, Tryd.ntmps6
    go_wp2_with fail
    refine HA.out.mono ?_
    rintro e w1 ⟨rfl, k1⟩
    go_wp2_with fail
    refine (HL1.out w1 k1).mono ?_
    rintro e w' ⟨rfl, rfl⟩
    go_wp2_with fail
    refine (HL2.out w1 k1).mono ?_
    rintro e w' ⟨rfl, rfl⟩
    go_wp2
    go_ret
    exact ⟨rfl, k1⟩
  | true =>
  rw [hlt2] at HL2
  obtain ⟨hl20, hsh⟩ := lightL_true hlt
  obtain ⟨hm20, hshm⟩ := lightL_true hlt2
  have hshX := hsh.mono (b := 9223372036854775807) (by omega)
  have hshmX := hshm.mono (b := 9223372036854775807) (by omega)
  have HC1 := Lib.hid fun w' (k : Kept (fun _ => False) W w') => refCheck11_any name ao c L w' (hr.kept k) hl hn hshX
  have HC2 := Lib.hid fun w' (k : Kept (fun _ => False) W w') => refCheck11_any name2 bo d M w' (hs.kept k) hm hn2 hshmX
  have HT1 := Lib.hid fun w' (k : Kept (fun _ => False) W w') => text_any name ao c L w' (hr.kept k) hc hl (by omega) (hsh.mono (by omega))
  have HT2 := Lib.hid fun w' (k : Kept (fun _ => False) W w') => text_any name2 bo d M w' (hs.kept k) hd hm (by omega) (hshm.mono (by omega))
  have HMT1 := Lib.hid fun w' (k : Kept (fun _ => False) W w') => matches_any name name2 ao bo c d L M w' (hr.kept k) (hs.kept k) hc hd (by omega) (by omega) hn hn2 hshX hshmX
  have HMT2 := Lib.hid fun w' (k : Kept (fun _ => False) W w') => matches_any name2 name bo ao d c M L w' (hs.kept k) (hr.kept k) hd hc (by omega) (by omega) hn2 hn hshmX hshX
  obtain ⟨T1, hT1⟩ : ∃ t, t = textT name L := ⟨_, rfl⟩
  obtain ⟨T2, hT2⟩ : ∃ t, t = textT name2 M := ⟨_, rfl⟩
  rw [← hT1] at HT1
  rw [← hT2] at HT2
  obtain ⟨S1, E1⟩ := T1
  obtain ⟨S2, E2⟩ := T2
  dsimp only at HT1 HT2
  have hmm := mat_mat hT1.symm hT2.symm
  have hwa := wantN_all name L name2 M
  rw [textT_snd' hT1.symm, textT_snd' hT2.symm] at hwa
  rw [textT_snd' hT1.symm] at HC1
  rw [textT_snd' hT2.symm] at HC2
  obtain ⟨G, hG⟩ : ∃ g, g = matB name L name2 M := ⟨_, rfl⟩
  obtain ⟨G2, hG2⟩ : ∃ g, g = matB name2 M name L := ⟨_, rfl⟩
  rw [← hG] at HMT1 hmm hwa
  rw [← hG2] at HMT2 hmm
  have HR := Lib.hid hr
  have HS := Lib.hid hs
  obtain ⟨b2, hb2⟩ : ∃ b, b = (name.toList == name2.toList) := ⟨_, rfl⟩
  rw [← hb2] at hwa
  replace hb2 := hb2.symm
  obtain ⟨b3, hb3⟩ : ∃ b, b = (S1.toList == S2.toList) := ⟨_, rfl⟩
  rw [← hb3] at hmm
  replace hb3 := hb3.symm
  obtain ⟨n, hn'⟩ : ∃ n, n = L.length := ⟨_, rfl⟩
  obtain ⟨m, hm'⟩ : ∃ n, n = M.length := ⟨_, rfl⟩
  have HLN := Lib.hid hn'
  have HMN := Lib.hid hm'
  rw [← hn'] at HL1 HT1 HC1 HMT1 HMT2 hl20 ⊢
  rw [← hm'] at HL2 HT2 HC2 HMT1 HMT2 hm20 hwa ⊢
  have HL20 := Lib.hid hl20
  have HM20 := Lib.hid hm20
  clear hr hs hc hd hl hm hn hn2 h1 h2 hlt hlt2 hl20 hsh hm20 hshm hshX hshmX hT1 hT2 hG hG2 hn' hm'
  by_cases hE1 : E1 = 0
  · subst hE1
    rw [decide_eq_true rfl, Bool.true_and] at hwa hmm
    by_cases hE2 : E2 = 0
    · subst hE2
      rw [decide_eq_true rfl, Bool.true_and] at hwa hmm
      cases b2 with
      | false =>
        obtain rfl : G = false := hwa.symm
        rw [Bool.false_and] at hmm
        subst hmm
        have HWA := Lib.hid hwa
        clear hwa
        go_enter Tryd.func6, Tryd.ntmps6
        go_wp2_with fail
        refine HA.out.mono ?_
        rintro e w1 ⟨rfl, k1⟩
        go_wp2_with fail
        refine (HL1.out w1 k1).mono ?_
        rintro e w' ⟨rfl, rfl⟩
        go_wp2_with fail
        refine (HL2.out w1 k1).mono ?_
        rintro e w' ⟨rfl, rfl⟩
        go_wp2_with fail
        refine (HC1.out _ k1).mono ?_
        rintro e w2 ⟨rfl, k2⟩
        have K2 := k1.trans k2
        go_wp2_with fail
        refine (HC2.out _ K2).mono ?_
        rintro e w3 ⟨rfl, k3⟩
        have K3 := K2.trans k3
        go_wp2
        go_loopg [9, 10] m (fun g s9 s10 wr => ∃ (j : Nat) (b : Bool), j ≤ m ∧ g = m - j ∧ s9 = .bool b ∧ b = wantN false L M j ∧ s10 = .int .i64 j ∧ Kept (fun _ => False) W wr)
        case atStart => exact ⟨0, false, Nat.zero_le _, rfl, rfl, rfl, rfl, K3⟩
        case round =>
          obtain ⟨j, b, hjm, rfl, rfl, hb, rfl, kw⟩ := hrel
          have HB := Lib.hid hb
          have HK := Lib.hid kw
          clear hb kw
          by_cases hd : j < m
          · have hdj : (j : Int) < (m : Int) := by omega
            have hj0 : (0 : Int) ≤ (j : Int) := by omega
            have HD := Lib.hid hd
            have wj : IntKind.i64.wrap ((j : Int) + 1) = ((j + 1 : Nat) : Int) := by rw [IntWalk.i64_in _ ⟨by omega, by have := HM20.out; omega⟩]; omega
            have hjL : j < M.length := by have := HMN.out; omega
            obtain ⟨gb, ob, rfl, hrec2⟩ := HS.out (by omega)
            have e2 := hrec2 j M[j] (List.getElem?_eq_getElem hjL)
            have ws := wantN_succ (B := false) (L := L) (List.getElem?_eq_getElem hjL)
            obtain ⟨y, hy⟩ : ∃ p, p = M[j] := ⟨_, rfl⟩
            rw [← hy] at e2 ws
            rw [← HB.out] at ws
            have HWS := Lib.hid ws
            obtain ⟨yk, yv⟩ := y
            have HY0 := Lib.hid e2.c0
            have HY1 := Lib.hid e2.c1
            dsimp only at HY0 HY1
            clear hd hjm hjL hrec2 e2 ws hy
            go_wp2
            go_loopg [11, 12] n (fun g s11 s12 ws => ∃ (i : Nat) (h : Bool), i ≤ n ∧ g = n - i ∧ s11 = .bool h ∧ h = (L.take i).any (fun p => eqP p ⟨yk, yv⟩) ∧ s12 = .int .i64 i ∧ Kept (fun _ => False) W ws)
            case atStart => exact ⟨0, false, Nat.zero_le _, rfl, rfl, rfl, rfl, HK.out⟩
            case round =>
              obtain ⟨i, h, hin, rfl, rfl, hh, rfl, kv⟩ := hrel
              have HH := Lib.hid hh
              have HK2 := Lib.hid kv
              have HK3 := Lib.hid kv.drew
              clear hh kv
              by_cases hi : i < n
              · have hdi : (i : Int) < (n : Int) := by omega
                have hi0 : (0 : Int) ≤ (i : Int) := by omega
                have HI := Lib.hid hi
                have wi : IntKind.i64.wrap ((i : Int) + 1) = ((i + 1 : Nat) : Int) := by rw [IntWalk.i64_in _ ⟨by omega, by have := HL20.out; omega⟩]; omega
                have hiL : i < L.length := by have := HLN.out; omega
                obtain ⟨ga, oa, rfl, hrec⟩ := HR.out (by omega)
                have e1 := (hrec i L[i] (List.getElem?_eq_getElem hiL)).keptS HK3.out (fun x => x)
                have ats := any_take_succ (p := fun p => eqP p ⟨yk, yv⟩) (List.getElem?_eq_getElem hiL)
                obtain ⟨x, hx⟩ : ∃ p, p = L[i] := ⟨_, rfl⟩
                rw [← hx] at e1 ats
                rw [← HH.out] at ats
                obtain ⟨xk, xv⟩ := x
                have hnp := eql_pair xk xv yk yv
                obtain ⟨b4, hb4⟩ : ∃ b, b = eqP ⟨xk, xv⟩ ⟨yk, yv⟩ := ⟨_, rfl⟩
                rw [show ((xk.toList == yk.toList) && (xv.toList == yv.toList)) = b4 from hb4.symm] at hnp
                rw [← hb4] at ats
                have HAT := Lib.hid ats
                have HSS : Hid ((fun w' => w'.cell? ⟨ga, oa + i * 2, none⟩ = some (.string xk) ∧ w'.cell? ⟨ga, oa + i * 2 + 1, none⟩ = some (.string xv) ∧ w'.cell? ⟨gb, ob + j * 2, none⟩ = some (.string yk) ∧ w'.cell? ⟨gb, ob + j * 2 + 1, none⟩ = some (.string yv)) wr.drew) := Lib.hid ⟨e1.c0, e1.c1, HK3.out.cell HY0.out (fun x => x), HK3.out.cell HY1.out (fun x => x)⟩
                clear hi hin hiL hrec e1 ats hx hb4
                cases h with
                | true =>
                  clear hnp
                  go_upto_region 13 with fail
                  refine AnyBut.start (S := fun w' => w'.cell? ⟨ga, oa + i * 2, none⟩ = some (.string xk) ∧ w'.cell? ⟨ga, oa + i * 2 + 1, none⟩ = some (.string xv) ∧ w'.cell? ⟨gb, ob + j * 2, none⟩ = some (.string yk) ∧ w'.cell? ⟨gb, ob + j * 2 + 1, none⟩ = some (.string yv)) (k := 13) (by kernel_rfl) ?_
                  refine AnyBut.takeS (i := 0) (v := ?v53) rfl (by kernel_rfl) (Nat.le_of_eq (by kernel_rfl)) (by kernel_rfl) (by kernel_rfl) (fun _ _ _ h => h) (HSS.out) (Or.inl ⟨by kernel_rfl, ?hy53⟩) ?r53
                  case hy53 =>
                    intro w hSw
                    try dsimp only at hSw
                    go_simp
                    try with_reducible rfl
                  try simp only [Act.put, List.getElem_toArray, List.getElem_cons_zero, List.setIfInBounds_toArray, List.set_cons_zero, List.set_cons_succ]
                  refine AnyBut.takeS (i := 1) (v := ?v54) rfl (by kernel_rfl) (Nat.le_of_eq (by kernel_rfl)) (by kernel_rfl) (by kernel_rfl) (fun _ _ _ h => h) (HSS.out) (Or.inl ⟨by kernel_rfl, ?hy54⟩) ?r54
                  case hy54 =>
                    intro w hSw
                    try dsimp only at hSw
                    go_simp
                    try with_reducible rfl
                  try simp only [Act.put, List.getElem_toArray, List.getElem_cons_succ, List.getElem_cons_zero, List.setIfInBounds_toArray, List.set_cons_zero, List.set_cons_succ]
                  refine AnyBut.takeS (i := 2) (v := undef) rfl (by kernel_rfl) (Nat.le_of_eq (by kernel_rfl)) (by kernel_rfl) (by kernel_rfl) (fun _ _ _ h => h) (HSS.out) (Or.inr ⟨by kernel_rfl, rfl⟩) ?r55
                  try simp only [Act.put, List.getElem_toArray, List.getElem_cons_succ, List.getElem_cons_zero, List.setIfInBounds_toArray, List.set_cons_zero, List.set_cons_succ]
                  refine AnyBut.takeS (i := 3) (v := undef) rfl (by kernel_rfl) (Nat.le_of_eq (by kernel_rfl)) (by kernel_rfl) (by kernel_rfl) (fun _ _ _ h => h) (HSS.out) (Or.inr ⟨by kernel_rfl, rfl⟩) ?r56
                  try simp only [Act.put, List.getElem_toArray, List.getElem_cons_succ, List.getElem_cons_zero, List.setIfInBounds_toArray, List.set_cons_zero, List.set_cons_succ]
                  refine AnyBut.takeS (i := 4) (v := undef) rfl (by kernel_rfl) (Nat.le_of_eq (by kernel_rfl)) (by kernel_rfl) (by kernel_rfl) (fun _ _ _ h => h) (HSS.out) (Or.inr ⟨by kernel_rfl, rfl⟩) ?r57
                  try simp only [Act.put, List.getElem_toArray, List.getElem_cons_succ, List.getElem_cons_zero, List.setIfInBounds_toArray, List.set_cons_zero, List.set_cons_succ]
                  refine AnyBut.takeS (i := 5) (v := undef) rfl (by kernel_rfl) (Nat.le_of_eq (by kernel_rfl)) (by kernel_rfl) (by kernel_rfl) (fun _ _ _ h => h) (HSS.out) (Or.inr ⟨by kernel_rfl, rfl⟩) ?r58
                  try simp only [Act.put, List.getElem_toArray, List.getElem_cons_succ, List.getElem_cons_zero, List.setIfInBounds_toArray, List.set_cons_zero, List.set_cons_succ]
                  refine AnyBut.takeS (i := 6) (v := undef) rfl (by kernel_rfl) (Nat.le_of_eq (by kernel_rfl)) (by kernel_rfl) (by kernel_rfl) (fun _ _ _ h => h) (HSS.out) (Or.inr ⟨by kernel_rfl, rfl⟩) ?r59
                  try simp only [Act.put, List.getElem_toArray, List.getElem_cons_succ, List.getElem_cons_zero, List.setIfInBounds_toArray, List.set_cons_zero, List.set_cons_succ]
                  refine AnyBut.takeS (i := 7) (v := undef) rfl (by kernel_rfl) (Nat.le_of_eq (by kernel_rfl)) (by kernel_rfl) (by kernel_rfl) (fun _ _ _ h => h) (HSS.out) (Or.inr ⟨by kernel_rfl, rfl⟩) ?r60
                  try simp only [Act.put, List.getElem_toArray, List.getElem_cons_succ, List.getElem_cons_zero, List.setIfInBounds_toArray, List.set_cons_zero, List.set_cons_succ]
                  refine AnyBut.takeS (i := 8) (v := undef) rfl (by kernel_rfl) (Nat.le_of_eq (by kernel_rfl)) (by kernel_rfl) (by kernel_rfl) (fun _ _ _ h => h) (HSS.out) (Or.inr ⟨by kernel_rfl, rfl⟩) ?r61
                  try simp only [Act.put, List.getElem_toArray, List.getElem_cons_succ, List.getElem_cons_zero, List.setIfInBounds_toArray, List.set_cons_zero, List.set_cons_succ]
                  refine AnyBut.takeS (i := 9) (v := undef) rfl (by kernel_rfl) (Nat.le_of_eq (by kernel_rfl)) (by kernel_rfl) (by kernel_rfl) (fun _ _ _ h => h) (HSS.out) (Or.inr ⟨by kernel_rfl, rfl⟩) ?r62
                  try simp only [Act.put, List.getElem_toArray, List.getElem_cons_succ, List.getElem_cons_zero, List.setIfInBounds_toArray, List.set_cons_zero, List.set_cons_succ]
                  refine AnyBut.takeS (i := 10) (v := undef) rfl (by kernel_rfl) (Nat.le_of_eq (by kernel_rfl)) (by kernel_rfl) (by kernel_rfl) (fun _ _ _ h => h) (HSS.out) (Or.inr ⟨by kernel_rfl, rfl⟩) ?r63
                  try simp only [Act.put, List.getElem_toArray, List.getElem_cons_succ, List.getElem_cons_zero, List.setIfInBounds_toArray, List.set_cons_zero, List.set_cons_succ]
                  refine AnyBut.takeS (i := 11) (v := ?v64) rfl (by kernel_rfl) (Nat.le_of_eq (by kernel_rfl)) (by kernel_rfl) (by kernel_rfl) (fun _ _ _ h => h) (HSS.out) (Or.inl ⟨by kernel_rfl, ?hy64⟩) ?r64
                  case hy64 =>
                    intro w hSw
                    try dsimp only at hSw
                    go_simp
                    try with_reducible rfl
                  try simp only [Act.put, List.getElem_toArray, List.getElem_cons_succ, List.getElem_cons_zero, List.setIfInBounds_toArray, List.set_cons_zero, List.set_cons_succ]
                  refine AnyBut.takeS (i := 12) (v := ?v65) rfl (by kernel_rfl) (Nat.le_of_eq (by kernel_rfl)) (by kernel_rfl) (by kernel_rfl) (fun _ _ _ h => h) (HSS.out) (Or.inl ⟨by kernel_rfl, ?hy65⟩) ?r65
                  case hy65 =>
                    intro w hSw
                    try dsimp only at hSw
                    go_simp
                    try with_reducible rfl
                  try simp only [Act.put, List.getElem_toArray, List.getElem_cons_succ, List.getElem_cons_zero, List.setIfInBounds_toArray, List.set_cons_zero, List.set_cons_succ]
                  refine AnyBut.done (by kernel_rfl) ?_
                  go_wp2
                  go_roundg (n - (i + 1))
                  case measure => have := HI.out; omega
                  case rel => exact ⟨i + 1, true, HI.out, rfl, rfl, HAT.out.symm, rfl, HK3.out⟩
                | false =>
                  go_upto_region 13 with fail
                  refine AnyBut.start (S := fun w' => w'.cell? ⟨ga, oa + i * 2, none⟩ = some (.string xk) ∧ w'.cell? ⟨ga, oa + i * 2 + 1, none⟩ = some (.string xv) ∧ w'.cell? ⟨gb, ob + j * 2, none⟩ = some (.string yk) ∧ w'.cell? ⟨gb, ob + j * 2 + 1, none⟩ = some (.string yv)) (k := 13) (by kernel_rfl) ?_
                  refine AnyBut.takeS (i := 0) (v := ?v66) rfl (by kernel_rfl) (Nat.le_of_eq (by kernel_rfl)) (by kernel_rfl) (by kernel_rfl) (fun _ _ _ h => h) (HSS.out) (Or.inl ⟨by kernel_rfl, ?hy66⟩) ?r66
                  case hy66 =>
                    intro w hSw
                    try dsimp only at hSw
                    go_simp
                    try with_reducible rfl
                  try simp only [Act.put, List.getElem_toArray, List.getElem_cons_zero, List.setIfInBounds_toArray, List.set_cons_zero, List.set_cons_succ]
                  refine AnyBut.takeS (i := 1) (v := ?v67) rfl (by kernel_rfl) (Nat.le_of_eq (by kernel_rfl)) (by kernel_rfl) (by kernel_rfl) (fun _ _ _ h => h) (HSS.out) (Or.inl ⟨by kernel_rfl, ?hy67⟩) ?r67
                  case hy67 =>
                    intro w hSw
                    try dsimp only at hSw
                    go_simp
                    try with_reducible rfl
                  try simp only [Act.put, List.getElem_toArray, List.getElem_cons_succ, List.getElem_cons_zero, List.setIfInBounds_toArray, List.set_cons_zero, List.set_cons_succ]
                  refine AnyBut.takeS (i := 2) (v := ?v68) rfl (by kernel_rfl) (Nat.le_of_eq (by kernel_rfl)) (by kernel_rfl) (by kernel_rfl) (fun _ _ _ h => h) (HSS.out) (Or.inl ⟨by kernel_rfl, ?hy68⟩) ?r68
                  case hy68 =>
                    intro w hSw
                    try dsimp only at hSw
                    go_simp
                    try with_reducible rfl
                  try simp only [Act.put, List.getElem_toArray, List.getElem_cons_succ, List.getElem_cons_zero, List.setIfInBounds_toArray, List.set_cons_zero, List.set_cons_succ]
                  refine AnyBut.takeS (i := 3) (v := ?v69) rfl (by kernel_rfl) (Nat.le_of_eq (by kernel_rfl)) (by kernel_rfl) (by kernel_rfl) (fun _ _ _ h => h) (HSS.out) (Or.inl ⟨by kernel_rfl, ?hy69⟩) ?r69
                  case hy69 =>
                    intro w hSw
                    try dsimp only at hSw
                    go_simp
                    try with_reducible rfl
                  try simp only [Act.put, List.getElem_toArray, List.getElem_cons_succ, List.getElem_cons_zero, List.setIfInBounds_toArray, List.set_cons_zero, List.set_cons_succ]
                  refine AnyBut.takeS (i := 4) (v := ?v70) rfl (by kernel_rfl) (Nat.le_of_eq (by kernel_rfl)) (by kernel_rfl) (by kernel_rfl) (fun _ _ _ h => h) (HSS.out) (Or.inl ⟨by kernel_rfl, ?hy70⟩) ?r70
                  case hy70 =>
                    intro w hSw
                    try dsimp only at hSw
                    go_simp
                    try with_reducible rfl
                  try simp only [Act.put, List.getElem_toArray, List.getElem_cons_succ, List.getElem_cons_zero, List.setIfInBounds_toArray, List.set_cons_zero, List.set_cons_succ]
                  refine AnyBut.takeS (i := 5) (v := ?v71) rfl (by kernel_rfl) (Nat.le_of_eq (by kernel_rfl)) (by kernel_rfl) (by kernel_rfl) (fun _ _ _ h => h) (HSS.out) (Or.inl ⟨by kernel_rfl, ?hy71⟩) ?r71
                  case hy71 =>
                    intro w hSw
                    try dsimp only at hSw
                    go_simp
                    try with_reducible rfl
                  try simp only [Act.put, List.getElem_toArray, List.getElem_cons_succ, List.getElem_cons_zero, List.setIfInBounds_toArray, List.set_cons_zero, List.set_cons_succ]
                  refine AnyBut.takeS (i := 6) (v := ?v72) rfl (by kernel_rfl) (Nat.le_of_eq (by kernel_rfl)) (by kernel_rfl) (by kernel_rfl) (fun _ _ _ h => h) (HSS.out) (Or.inl ⟨by kernel_rfl, ?hy72⟩) ?r72
                  case hy72 =>
                    intro w hSw
                    try dsimp only at hSw
                    go_simp
                    try with_reducible rfl
                  try simp only [Act.put, List.getElem_toArray, List.getElem_cons_succ, List.getElem_cons_zero, List.setIfInBounds_toArray, List.set_cons_zero, List.set_cons_succ]
                  refine AnyBut.takeS (i := 7) (v := ?v73) rfl (by kernel_rfl) (Nat.le_of_eq (by kernel_rfl)) (by kernel_rfl) (by kernel_rfl) (fun _ _ _ h => h) (HSS.out) (Or.inl ⟨by kernel_rfl, ?hy73⟩) ?r73
                  case hy73 =>
                    intro w hSw
                    try dsimp only at hSw
                    go_simp
                    try with_reducible rfl
                  try simp only [Act.put, List.getElem_toArray, List.getElem_cons_succ, List.getElem_cons_zero, List.setIfInBounds_toArray, List.set_cons_zero, List.set_cons_succ]
                  refine AnyBut.takeS (i := 8) (v := ?v74) rfl (by kernel_rfl) (Nat.le_of_eq (by kernel_rfl)) (by kernel_rfl) (by kernel_rfl) (fun _ _ _ h => h) (HSS.out) (Or.inl ⟨by kernel_rfl, ?hy74⟩) ?r74
                  case hy74 =>
                    intro w hSw
                    try dsimp only at hSw
                    go_simp
                    try with_reducible rfl
                  try simp only [Act.put, List.getElem_toArray, List.getElem_cons_succ, List.getElem_cons_zero, List.setIfInBounds_toArray, List.set_cons_zero, List.set_cons_succ]
                  refine AnyBut.takeS (i := 9) (v := ?v75) rfl (by kernel_rfl) (Nat.le_of_eq (by kernel_rfl)) (by kernel_rfl) (by kernel_rfl) (fun _ _ _ h => h) (HSS.out) (Or.inl ⟨by kernel_rfl, ?hy75⟩) ?r75
                  case hy75 =>
                    intro w hSw
                    try dsimp only at hSw
                    go_simp
                    try with_reducible rfl
                  try simp only [Act.put, List.getElem_toArray, List.getElem_cons_succ, List.getElem_cons_zero, List.setIfInBounds_toArray, List.set_cons_zero, List.set_cons_succ]
                  refine AnyBut.takeS (i := 10) (v := ?v76) rfl (by kernel_rfl) (Nat.le_of_eq (by kernel_rfl)) (by kernel_rfl) (by kernel_rfl) (fun _ _ _ h => h) (HSS.out) (Or.inl ⟨by kernel_rfl, ?hy76⟩) ?r76
                  case hy76 =>
                    intro w hSw
                    try dsimp only at hSw
                    go_simp
                    try with_reducible rfl
                  try simp only [Act.put, List.getElem_toArray, List.getElem_cons_succ, List.getElem_cons_zero, List.setIfInBounds_toArray, List.set_cons_zero, List.set_cons_succ]
                  refine AnyBut.takeS (i := 11) (v := ?v77) rfl (by kernel_rfl) (Nat.le_of_eq (by kernel_rfl)) (by kernel_rfl) (by kernel_rfl) (fun _ _ _ h => h) (HSS.out) (Or.inl ⟨by kernel_rfl, ?hy77⟩) ?r77
                  case hy77 =>
                    intro w hSw
                    try dsimp only at hSw
                    go_simp
                    try with_reducible rfl
                  try simp only [Act.put, List.getElem_toArray, List.getElem_cons_succ, List.getElem_cons_zero, List.setIfInBounds_toArray, List.set_cons_zero, List.set_cons_succ]
                  refine AnyBut.takeS (i := 12) (v := ?v78) rfl (by kernel_rfl) (Nat.le_of_eq (by kernel_rfl)) (by kernel_rfl) (by kernel_rfl) (fun _ _ _ h => h) (HSS.out) (Or.inl ⟨by kernel_rfl, ?hy78⟩) ?r78
                  case hy78 =>
                    intro w hSw
                    try dsimp only at hSw
                    go_simp
                    try with_reducible rfl
                  try simp only [Act.put, List.getElem_toArray, List.getElem_cons_succ, List.getElem_cons_zero, List.setIfInBounds_toArray, List.set_cons_zero, List.set_cons_succ]
                  refine AnyBut.done (by kernel_rfl) ?_
                  go_wp2
                  go_roundg (n - (i + 1))
                  case measure => have := HI.out; omega
                  case rel => exact ⟨i + 1, b4, HI.out, rfl, rfl, by rw [HAT.out]; rfl, rfl, HK3.out⟩
              · obtain rfl : n = i := by omega
                have hh := HH.out
                rw [HLN.out, List.take_length] at hh
                have hws := HWS.out
                rw [← hh] at hws
                have HW2 := Lib.hid hws
                clear hi hh hws
                cases b with
                | true =>
                  go_wp2
                  go_roundg (m - (j + 1))
                  case measure => have := HD.out; omega
                  case rel => exact ⟨j + 1, h, HD.out, rfl, rfl, by rw [HW2.out]; rfl, rfl, HK2.out⟩
                | false =>
                  go_wp2
                  go_roundg (m - (j + 1))
                  case measure => have := HD.out; omega
                  case rel => exact ⟨j + 1, false, HD.out, rfl, rfl, by rw [HW2.out]; rfl, rfl, HK2.out⟩
          · obtain rfl : m = j := by omega
            clear hd
            obtain rfl : b = false := HB.out.trans HWA.out
            go_wp2_with fail
            refine (HMT1.out _ HK.out).mono ?_
            rintro e w4 ⟨rfl, k4⟩
            have K4 := HK.out.trans k4
            go_wp2_with fail
            refine (HMT2.out _ K4).mono ?_
            rintro e w5 ⟨rfl, k5⟩
            have K5 := K4.trans k5
            go_wp2_with fail
            refine (HT1.out _ K5).mono ?_
            rintro e w6 ⟨rfl, k6⟩
            have K6 := K5.trans k6
            go_wp2_with fail
            refine (HT2.out _ K6).mono ?_
            rintro e w7 ⟨rfl, k7⟩
            have K7 := K6.trans k7
            go_wp2
            go_ret
            exact ⟨rfl, K7⟩
      | true =>
        have HWA := Lib.hid hwa
        clear hwa
        cases G with
        | false =>
          rw [Bool.false_and] at hmm
          subst hmm
          go_enter Tryd.func6, Tryd.ntmps6
          go_wp2_with fail
          refine HA.out.mono ?_
          rintro e w1 ⟨rfl, k1⟩
          go_wp2_with fail
          refine (HL1.out w1 k1).mono ?_
          rintro e w' ⟨rfl, rfl⟩
          go_wp2_with fail
          refine (HL2.out w1 k1).mono ?_
          rintro e w' ⟨rfl, rfl⟩
          go_wp2_with fail
          refine (HC1.out _ k1).mono ?_
          rintro e w2 ⟨rfl, k2⟩
          have K2 := k1.trans k2
          go_wp2_with fail
          refine (HC2.out _ K2).mono ?_
          rintro e w3 ⟨rfl, k3⟩
          have K3 := K2.trans k3
          go_wp2
          go_loopg [9, 10] m (fun g s9 s10 wr => ∃ (j : Nat) (b : Bool), j ≤ m ∧ g = m - j ∧ s9 = .bool b ∧ b = wantN true L M j ∧ s10 = .int .i64 j ∧ Kept (fun _ => False) W wr)
          case atStart => exact ⟨0, true, Nat.zero_le _, rfl, rfl, rfl, rfl, K3⟩
          case round =>
            obtain ⟨j, b, hjm, rfl, rfl, hb, rfl, kw⟩ := hrel
            have HB := Lib.hid hb
            have HK := Lib.hid kw
            clear hb kw
            by_cases hd : j < m
            · have hdj : (j : Int) < (m : Int) := by omega
              have hj0 : (0 : Int) ≤ (j : Int) := by omega
              have HD := Lib.hid hd
              have wj : IntKind.i64.wrap ((j : Int) + 1) = ((j + 1 : Nat) : Int) := by rw [IntWalk.i64_in _ ⟨by omega, by have := HM20.out; omega⟩]; omega
              have hjL : j < M.length := by have := HMN.out; omega
              obtain ⟨gb, ob, rfl, hrec2⟩ := HS.out (by omega)
              have e2 := hrec2 j M[j] (List.getElem?_eq_getElem hjL)
              have ws := wantN_succ (B := true) (L := L) (List.getElem?_eq_getElem hjL)
              obtain ⟨y, hy⟩ : ∃ p, p = M[j] := ⟨_, rfl⟩
              rw [← hy] at e2 ws
              rw [← HB.out] at ws
              have HWS := Lib.hid ws
              obtain ⟨yk, yv⟩ := y
              have HY0 := Lib.hid e2.c0
              have HY1 := Lib.hid e2.c1
              dsimp only at HY0 HY1
              clear hd hjm hjL hrec2 e2 ws hy
              go_wp2
              go_loopg [11, 12] n (fun g s11 s12 ws => ∃ (i : Nat) (h : Bool), i ≤ n ∧ g = n - i ∧ s11 = .bool h ∧ h = (L.take i).any (fun p => eqP p ⟨yk, yv⟩) ∧ s12 = .int .i64 i ∧ Kept (fun _ => False) W ws)
              case atStart => exact ⟨0, false, Nat.zero_le _, rfl, rfl, rfl, rfl, HK.out⟩
              case round =>
                obtain ⟨i, h, hin, rfl, rfl, hh, rfl, kv⟩ := hrel
                have HH := Lib.hid hh
                have HK2 := Lib.hid kv
                have HK3 := Lib.hid kv.drew
                clear hh kv
                by_cases hi : i < n
                · have hdi : (i : Int) < (n : Int) := by omega
                  have hi0 : (0 : Int) ≤ (i : Int) := by omega
                  have HI := Lib.hid hi
                  have wi : IntKind.i64.wrap ((i : Int) + 1) = ((i + 1 : Nat) : Int) := by rw [IntWalk.i64_in _ ⟨by omega, by have := HL20.out; omega⟩]; omega
                  have hiL : i < L.length := by have := HLN.out; omega
                  obtain ⟨ga, oa, rfl, hrec⟩ := HR.out (by omega)
                  have e1 := (hrec i L[i] (List.getElem?_eq_getElem hiL)).keptS HK3.out (fun x => x)
                  have ats := any_take_succ (p := fun p => eqP p ⟨yk, yv⟩) (List.getElem?_eq_getElem hiL)
                  obtain ⟨x, hx⟩ : ∃ p, p = L[i] := ⟨_, rfl⟩
                  rw [← hx] at e1 ats
                  rw [← HH.out] at ats
                  obtain ⟨xk, xv⟩ := x
                  have hnp := eql_pair xk xv yk yv
                  obtain ⟨b4, hb4⟩ : ∃ b, b = eqP ⟨xk, xv⟩ ⟨yk, yv⟩ := ⟨_, rfl⟩
                  rw [show ((xk.toList == yk.toList) && (xv.toList == yv.toList)) = b4 from hb4.symm] at hnp
                  rw [← hb4] at ats
                  have HAT := Lib.hid ats
                  have HSS : Hid ((fun w' => w'.cell? ⟨ga, oa + i * 2, none⟩ = some (.string xk) ∧ w'.cell? ⟨ga, oa + i * 2 + 1, none⟩ = some (.string xv) ∧ w'.cell? ⟨gb, ob + j * 2, none⟩ = some (.string yk) ∧ w'.cell? ⟨gb, ob + j * 2 + 1, none⟩ = some (.string yv)) wr.drew) := Lib.hid ⟨e1.c0, e1.c1, HK3.out.cell HY0.out (fun x => x), HK3.out.cell HY1.out (fun x => x)⟩
                  clear hi hin hiL hrec e1 ats hx hb4
                  cases h with
                  | true =>
                    clear hnp
                    go_upto_region 13 with fail
                    refine AnyBut.start (S := fun w' => w'.cell? ⟨ga, oa + i * 2, none⟩ = some (.string xk) ∧ w'.cell? ⟨ga, oa + i * 2 + 1, none⟩ = some (.string xv) ∧ w'.cell? ⟨gb, ob + j * 2, none⟩ = some (.string yk) ∧ w'.cell? ⟨gb, ob + j * 2 + 1, none⟩ = some (.string yv)) (k := 13) (by kernel_rfl) ?_
                    refine AnyBut.takeS (i := 0) (v := ?v79) rfl (by kernel_rfl) (Nat.le_of_eq (by kernel_rfl)) (by kernel_rfl) (by kernel_rfl) (fun _ _ _ h => h) (HSS.out) (Or.inl ⟨by kernel_rfl, ?hy79⟩) ?r79
                    case hy79 =>
                      intro w hSw
                      try dsimp only at hSw
                      go_simp
                      try with_reducible rfl
                    try simp only [Act.put, List.getElem_toArray, List.getElem_cons_zero, List.setIfInBounds_toArray, List.set_cons_zero, List.set_cons_succ]
                    refine AnyBut.takeS (i := 1) (v := ?v80) rfl (by kernel_rfl) (Nat.le_of_eq (by kernel_rfl)) (by kernel_rfl) (by kernel_rfl) (fun _ _ _ h => h) (HSS.out) (Or.inl ⟨by kernel_rfl, ?hy80⟩) ?r80
                    case hy80 =>
                      intro w hSw
                      try dsimp only at hSw
                      go_simp
                      try with_reducible rfl
                    try simp only [Act.put, List.getElem_toArray, List.getElem_cons_succ, List.getElem_cons_zero, List.setIfInBounds_toArray, List.set_cons_zero, List.set_cons_succ]
                    refine AnyBut.takeS (i := 2) (v := undef) rfl (by kernel_rfl) (Nat.le_of_eq (by kernel_rfl)) (by kernel_rfl) (by kernel_rfl) (fun _ _ _ h => h) (HSS.out) (Or.inr ⟨by kernel_rfl, rfl⟩) ?r81
                    try simp only [Act.put, List.getElem_toArray, List.getElem_cons_succ, List.getElem_cons_zero, List.setIfInBounds_toArray, List.set_cons_zero, List.set_cons_succ]
                    refine AnyBut.takeS (i := 3) (v := undef) rfl (by kernel_rfl) (Nat.le_of_eq (by kernel_rfl)) (by kernel_rfl) (by kernel_rfl) (fun _ _ _ h => h) (HSS.out) (Or.inr ⟨by kernel_rfl, rfl⟩) ?r82
                    try simp only [Act.put, List.getElem_toArray, List.getElem_cons_succ, List.getElem_cons_zero, List.setIfInBounds_toArray, List.set_cons_zero, List.set_cons_succ]
                    refine AnyBut.takeS (i := 4) (v := undef) rfl (by kernel_rfl) (Nat.le_of_eq (by kernel_rfl)) (by kernel_rfl) (by kernel_rfl) (fun _ _ _ h => h) (HSS.out) (Or.inr ⟨by kernel_rfl, rfl⟩) ?r83
                    try simp only [Act.put, List.getElem_toArray, List.getElem_cons_succ, List.getElem_cons_zero, List.setIfInBounds_toArray, List.set_cons_zero, List.set_cons_succ]
                    refine AnyBut.takeS (i := 5) (v := undef) rfl (by kernel_rfl) (Nat.le_of_eq (by kernel_rfl)) (by kernel_rfl) (by kernel_rfl) (fun _ _ _ h => h) (HSS.out) (Or.inr ⟨by kernel_rfl, rfl⟩) ?r84
                    try simp only [Act.put, List.getElem_toArray, List.getElem_cons_succ, List.getElem_cons_zero, List.setIfInBounds_toArray, List.set_cons_zero, List.set_cons_succ]
                    refine AnyBut.takeS (i := 6) (v := undef) rfl (by kernel_rfl) (Nat.le_of_eq (by kernel_rfl)) (by kernel_rfl) (by kernel_rfl) (fun _ _ _ h => h) (HSS.out) (Or.inr ⟨by kernel_rfl, rfl⟩) ?r85
                    try simp only [Act.put, List.getElem_toArray, List.getElem_cons_succ, List.getElem_cons_zero, List.setIfInBounds_toArray, List.set_cons_zero, List.set_cons_succ]
                    refine AnyBut.takeS (i := 7) (v := undef) rfl (by kernel_rfl) (Nat.le_of_eq (by kernel_rfl)) (by kernel_rfl) (by kernel_rfl) (fun _ _ _ h => h) (HSS.out) (Or.inr ⟨by kernel_rfl, rfl⟩) ?r86
                    try simp only [Act.put, List.getElem_toArray, List.getElem_cons_succ, List.getElem_cons_zero, List.setIfInBounds_toArray, List.set_cons_zero, List.set_cons_succ]
                    refine AnyBut.takeS (i := 8) (v := undef) rfl (by kernel_rfl) (Nat.le_of_eq (by kernel_rfl)) (by kernel_rfl) (by kernel_rfl) (fun _ _ _ h => h) (HSS.out) (Or.inr ⟨by kernel_rfl, rfl⟩) ?r87
                    try simp only [Act.put, List.getElem_toArray, List.getElem_cons_succ, List.getElem_cons_zero, List.setIfInBounds_toArray, List.set_cons_zero, List.set_cons_succ]
                    refine AnyBut.takeS (i := 9) (v := undef) rfl (by kernel_rfl) (Nat.le_of_eq (by kernel_rfl)) (by kernel_rfl) (by kernel_rfl) (fun _ _ _ h => h) (HSS.out) (Or.inr ⟨by kernel_rfl, rfl⟩) ?r88
                    try simp only [Act.put, List.getElem_toArray, List.getElem_cons_succ, List.getElem_cons_zero, List.setIfInBounds_toArray, List.set_cons_zero, List.set_cons_succ]
                    refine AnyBut.takeS (i := 10) (v := undef) rfl (by kernel_rfl) (Nat.le_of_eq (by kernel_rfl)) (by kernel_rfl) (by kernel_rfl) (fun _ _ _ h => h) (HSS.out) (Or.inr ⟨by kernel_rfl, rfl⟩) ?r89
                    try simp only [Act.put, List.getElem_toArray, List.getElem_cons_succ, List.getElem_cons_zero, List.setIfInBounds_toArray, List.set_cons_zero, List.set_cons_succ]
                    refine AnyBut.takeS (i := 11) (v := ?v90) rfl (by kernel_rfl) (Nat.le_of_eq (by kernel_rfl)) (by kernel_rfl) (by kernel_rfl) (fun _ _ _ h => h) (HSS.out) (Or.inl ⟨by kernel_rfl, ?hy90⟩) ?r90
                    case hy90 =>
                      intro w hSw
                      try dsimp only at hSw
                      go_simp
                      try with_reducible rfl
                    try simp only [Act.put, List.getElem_toArray, List.getElem_cons_succ, List.getElem_cons_zero, List.setIfInBounds_toArray, List.set_cons_zero, List.set_cons_succ]
                    refine AnyBut.takeS (i := 12) (v := ?v91) rfl (by kernel_rfl) (Nat.le_of_eq (by kernel_rfl)) (by kernel_rfl) (by kernel_rfl) (fun _ _ _ h => h) (HSS.out) (Or.inl ⟨by kernel_rfl, ?hy91⟩) ?r91
                    case hy91 =>
                      intro w hSw
                      try dsimp only at hSw
                      go_simp
                      try with_reducible rfl
                    try simp only [Act.put, List.getElem_toArray, List.getElem_cons_succ, List.getElem_cons_zero, List.setIfInBounds_toArray, List.set_cons_zero, List.set_cons_succ]
                    refine AnyBut.done (by kernel_rfl) ?_
                    go_wp2
                    go_roundg (n - (i + 1))
                    case measure => have := HI.out; omega
                    case rel => exact ⟨i + 1, true, HI.out, rfl, rfl, HAT.out.symm, rfl, HK3.out⟩
                  | false =>
                    go_upto_region 13 with fail
                    refine AnyBut.start (S := fun w' => w'.cell? ⟨ga, oa + i * 2, none⟩ = some (.string xk) ∧ w'.cell? ⟨ga, oa + i * 2 + 1, none⟩ = some (.string xv) ∧ w'.cell? ⟨gb, ob + j * 2, none⟩ = some (.string yk) ∧ w'.cell? ⟨gb, ob + j * 2 + 1, none⟩ = some (.string yv)) (k := 13) (by kernel_rfl) ?_
                    refine AnyBut.takeS (i := 0) (v := ?v92) rfl (by kernel_rfl) (Nat.le_of_eq (by kernel_rfl)) (by kernel_rfl) (by kernel_rfl) (fun _ _ _ h => h) (HSS.out) (Or.inl ⟨by kernel_rfl, ?hy92⟩) ?r92
                    case hy92 =>
                      intro w hSw
                      try dsimp only at hSw
                      go_simp
                      try with_reducible rfl
                    try simp only [Act.put, List.getElem_toArray, List.getElem_cons_zero, List.setIfInBounds_toArray, List.set_cons_zero, List.set_cons_succ]
                    refine AnyBut.takeS (i := 1) (v := ?v93) rfl (by kernel_rfl) (Nat.le_of_eq (by kernel_rfl)) (by kernel_rfl) (by kernel_rfl) (fun _ _ _ h => h) (HSS.out) (Or.inl ⟨by kernel_rfl, ?hy93⟩) ?r93
                    case hy93 =>
                      intro w hSw
                      try dsimp only at hSw
                      go_simp
                      try with_reducible rfl
                    try simp only [Act.put, List.getElem_toArray, List.getElem_cons_succ, List.getElem_cons_zero, List.setIfInBounds_toArray, List.set_cons_zero, List.set_cons_succ]
                    refine AnyBut.takeS (i := 2) (v := ?v94) rfl (by kernel_rfl) (Nat.le_of_eq (by kernel_rfl)) (by kernel_rfl) (by kernel_rfl) (fun _ _ _ h => h) (HSS.out) (Or.inl ⟨by kernel_rfl, ?hy94⟩) ?r94
                    case hy94 =>
                      intro w hSw
                      try dsimp only at hSw
                      go_simp
                      try with_reducible rfl
                    try simp only [Act.put, List.getElem_toArray, List.getElem_cons_succ, List.getElem_cons_zero, List.setIfInBounds_toArray, List.set_cons_zero, List.set_cons_succ]
                    refine AnyBut.takeS (i := 3) (v := ?v95) rfl (by kernel_rfl) (Nat.le_of_eq (by kernel_rfl)) (by kernel_rfl) (by kernel_rfl) (fun _ _ _ h => h) (HSS.out) (Or.inl ⟨by kernel_rfl, ?hy95⟩) ?r95
                    case hy95 =>
                      intro w hSw
                      try dsimp only at hSw
                      go_simp
                      try with_reducible rfl
                    try simp only [Act.put, List.getElem_toArray, List.getElem_cons_succ, List.getElem_cons_zero, List.setIfInBounds_toArray, List.set_cons_zero, List.set_cons_succ]
                    refine AnyBut.takeS (i := 4) (v := ?v96) rfl (by kernel_rfl) (Nat.le_of_eq (by kernel_rfl)) (by kernel_rfl) (by kernel_rfl) (fun _ _ _ h => h) (HSS.out) (Or.inl ⟨by kernel_rfl, ?hy96⟩) ?r96
                    case hy96 =>
                      intro w hSw
                      try dsimp only at hSw
                      go_simp
                      try with_reducible rfl
                    try simp only [Act.put, List.getElem_toArray, List.getElem_cons_succ, List.getElem_cons_zero, List.setIfInBounds_toArray, List.set_cons_zero, List.set_cons_succ]
                    refine AnyBut.takeS (i := 5) (v := ?v97) rfl (by kernel_rfl) (Nat.le_of_eq (by kernel_rfl)) (by kernel_rfl) (by kernel_rfl) (fun _ _ _ h => h) (HSS.out) (Or.inl ⟨by kernel_rfl, ?hy97⟩) ?r97
                    case hy97 =>
                      intro w hSw
                      try dsimp only at hSw
                      go_simp
                      try with_reducible rfl
                    try simp only [Act.put, List.getElem_toArray, List.getElem_cons_succ, List.getElem_cons_zero, List.setIfInBounds_toArray, List.set_cons_zero, List.set_cons_succ]
                    refine AnyBut.takeS (i := 6) (v := ?v98) rfl (by kernel_rfl) (Nat.le_of_eq (by kernel_rfl)) (by kernel_rfl) (by kernel_rfl) (fun _ _ _ h => h) (HSS.out) (Or.inl ⟨by kernel_rfl, ?hy98⟩) ?r98
                    case hy98 =>
                      intro w hSw
                      try dsimp only at hSw
                      go_simp
                      try with_reducible rfl
                    try simp only [Act.put, List.getElem_toArray, List.getElem_cons_succ, List.getElem_cons_zero, List.setIfInBounds_toArray, List.set_cons_zero, List.set_cons_succ]
                    refine AnyBut.takeS (i := 7) (v := ?v99) rfl (by kernel_rfl) (Nat.le_of_eq (by kernel_rfl)) (by kernel_rfl) (by kernel_rfl) (fun _ _ _ h => h) (HSS.out) (Or.inl ⟨by kernel_rfl, ?hy99⟩) ?r99
                    case hy99 =>
                      intro w hSw
                      try dsimp only at hSw
                      go_simp
                      try with_reducible rfl
                    try simp only [Act.put, List.getElem_toArray, List.getElem_cons_succ, List.getElem_cons_zero, List.setIfInBounds_toArray, List.set_cons_zero, List.set_cons_succ]
                    refine AnyBut.takeS (i := 8) (v := ?v100) rfl (by kernel_rfl) (Nat.le_of_eq (by kernel_rfl)) (by kernel_rfl) (by kernel_rfl) (fun _ _ _ h => h) (HSS.out) (Or.inl ⟨by kernel_rfl, ?hy100⟩) ?r100
                    case hy100 =>
                      intro w hSw
                      try dsimp only at hSw
                      go_simp
                      try with_reducible rfl
                    try simp only [Act.put, List.getElem_toArray, List.getElem_cons_succ, List.getElem_cons_zero, List.setIfInBounds_toArray, List.set_cons_zero, List.set_cons_succ]
                    refine AnyBut.takeS (i := 9) (v := ?v101) rfl (by kernel_rfl) (Nat.le_of_eq (by kernel_rfl)) (by kernel_rfl) (by kernel_rfl) (fun _ _ _ h => h) (HSS.out) (Or.inl ⟨by kernel_rfl, ?hy101⟩) ?r101
                    case hy101 =>
                      intro w hSw
                      try dsimp only at hSw
                      go_simp
                      try with_reducible rfl
                    try simp only [Act.put, List.getElem_toArray, List.getElem_cons_succ, List.getElem_cons_zero, List.setIfInBounds_toArray, List.set_cons_zero, List.set_cons_succ]
                    refine AnyBut.takeS (i := 10) (v := ?v102) rfl (by kernel_rfl) (Nat.le_of_eq (by kernel_rfl)) (by kernel_rfl) (by kernel_rfl) (fun _ _ _ h => h) (HSS.out) (Or.inl ⟨by kernel_rfl, ?hy102⟩) ?r102
                    case hy102 =>
                      intro w hSw
                      try dsimp only at hSw
                      go_simp
                      try with_reducible rfl
                    try simp only [Act.put, List.getElem_toArray, List.getElem_cons_succ, List.getElem_cons_zero, List.setIfInBounds_toArray, List.set_cons_zero, List.set_cons_succ]
                    refine AnyBut.takeS (i := 11) (v := ?v103) rfl (by kernel_rfl) (Nat.le_of_eq (by kernel_rfl)) (by kernel_rfl) (by kernel_rfl) (fun _ _ _ h => h) (HSS.out) (Or.inl ⟨by kernel_rfl, ?hy103⟩) ?r103
                    case hy103 =>
                      intro w hSw
                      try dsimp only at hSw
                      go_simp
                      try with_reducible rfl
                    try simp only [Act.put, List.getElem_toArray, List.getElem_cons_succ, List.getElem_cons_zero, List.setIfInBounds_toArray, List.set_cons_zero, List.set_cons_succ]
                    refine AnyBut.takeS (i := 12) (v := ?v104) rfl (by kernel_rfl) (Nat.le_of_eq (by kernel_rfl)) (by kernel_rfl) (by kernel_rfl) (fun _ _ _ h => h) (HSS.out) (Or.inl ⟨by kernel_rfl, ?hy104⟩) ?r104
                    case hy104 =>
                      intro w hSw
                      try dsimp only at hSw
                      go_simp
                      try with_reducible rfl
                    try simp only [Act.put, List.getElem_toArray, List.getElem_cons_succ, List.getElem_cons_zero, List.setIfInBounds_toArray, List.set_cons_zero, List.set_cons_succ]
                    refine AnyBut.done (by kernel_rfl) ?_
                    go_wp2
                    go_roundg (n - (i + 1))
                    case measure => have := HI.out; omega
                    case rel => exact ⟨i + 1, b4, HI.out, rfl, rfl, by rw [HAT.out]; rfl, rfl, HK3.out⟩
                · obtain rfl : n = i := by omega
                  have hh := HH.out
                  rw [HLN.out, List.take_length] at hh
                  have hws := HWS.out
                  rw [← hh] at hws
                  have HW2 := Lib.hid hws
                  clear hi hh hws
                  cases b with
                  | true =>
                    go_wp2
                    go_roundg (m - (j + 1))
                    case measure => have := HD.out; omega
                    case rel => exact ⟨j + 1, h, HD.out, rfl, rfl, by rw [HW2.out]; rfl, rfl, HK2.out⟩
                  | false =>
                    go_wp2
                    go_roundg (m - (j + 1))
                    case measure => have := HD.out; omega
                    case rel => exact ⟨j + 1, false, HD.out, rfl, rfl, by rw [HW2.out]; rfl, rfl, HK2.out⟩
            · obtain rfl : m = j := by omega
              clear hd
              obtain rfl : b = false := HB.out.trans HWA.out
              go_wp2_with fail
              refine (HMT1.out _ HK.out).mono ?_
              rintro e w4 ⟨rfl, k4⟩
              have K4 := HK.out.trans k4
              go_wp2_with fail
              refine (HMT2.out _ K4).mono ?_
              rintro e w5 ⟨rfl, k5⟩
              have K5 := K4.trans k5
              go_wp2_with fail
              refine (HT1.out _ K5).mono ?_
              rintro e w6 ⟨rfl, k6⟩
              have K6 := K5.trans k6
              go_wp2_with fail
              refine (HT2.out _ K6).mono ?_
              rintro e w7 ⟨rfl, k7⟩
              have K7 := K6.trans k7
              go_wp2
              go_ret
              exact ⟨rfl, K7⟩
        | true =>
          rw [Bool.true_and] at hmm
          subst hmm
          go_enter Tryd.func6, Tryd.ntmps6
          go_wp2_with fail
          refine HA.out.mono ?_
          rintro e w1 ⟨rfl, k1⟩
          go_wp2_with fail
          refine (HL1.out w1 k1).mono ?_
          rintro e w' ⟨rfl, rfl⟩
          go_wp2_with fail
          refine (HL2.out w1 k1).mono ?_
          rintro e w' ⟨rfl, rfl⟩
          go_wp2_with fail
          refine (HC1.out _ k1).mono ?_
          rintro e w2 ⟨rfl, k2⟩
          have K2 := k1.trans k2
          go_wp2_with fail
          refine (HC2.out _ K2).mono ?_
          rintro e w3 ⟨rfl, k3⟩
          have K3 := K2.trans k3
          go_wp2
          go_loopg [9, 10] m (fun g s9 s10 wr => ∃ (j : Nat) (b : Bool), j ≤ m ∧ g = m - j ∧ s9 = .bool b ∧ b = wantN true L M j ∧ s10 = .int .i64 j ∧ Kept (fun _ => False) W wr)
          case atStart => exact ⟨0, true, Nat.zero_le _, rfl, rfl, rfl, rfl, K3⟩
          case round =>
            obtain ⟨j, b, hjm, rfl, rfl, hb, rfl, kw⟩ := hrel
            have HB := Lib.hid hb
            have HK := Lib.hid kw
            clear hb kw
            by_cases hd : j < m
            · have hdj : (j : Int) < (m : Int) := by omega
              have hj0 : (0 : Int) ≤ (j : Int) := by omega
              have HD := Lib.hid hd
              have wj : IntKind.i64.wrap ((j : Int) + 1) = ((j + 1 : Nat) : Int) := by rw [IntWalk.i64_in _ ⟨by omega, by have := HM20.out; omega⟩]; omega
              have hjL : j < M.length := by have := HMN.out; omega
              obtain ⟨gb, ob, rfl, hrec2⟩ := HS.out (by omega)
              have e2 := hrec2 j M[j] (List.getElem?_eq_getElem hjL)
              have ws := wantN_succ (B := true) (L := L) (List.getElem?_eq_getElem hjL)
              obtain ⟨y, hy⟩ : ∃ p, p = M[j] := ⟨_, rfl⟩
              rw [← hy] at e2 ws
              rw [← HB.out] at ws
              have HWS := Lib.hid ws
              obtain ⟨yk, yv⟩ := y
              have HY0 := Lib.hid e2.c0
              have HY1 := Lib.hid e2.c1
              dsimp only at HY0 HY1
              clear hd hjm hjL hrec2 e2 ws hy
              go_wp2
              go_loopg [11, 12] n (fun g s11 s12 ws => ∃ (i : Nat) (h : Bool), i ≤ n ∧ g = n - i ∧ s11 = .bool h ∧ h = (L.take i).any (fun p => eqP p ⟨yk, yv⟩) ∧ s12 = .int .i64 i ∧ Kept (fun _ => False) W ws)
              case atStart => exact ⟨0, false, Nat.zero_le _, rfl, rfl, rfl, rfl, HK.out⟩
              case round =>
                obtain ⟨i, h, hin, rfl, rfl, hh, rfl, kv⟩ := hrel
                have HH := Lib.hid hh
                have HK2 := Lib.hid kv
                have HK3 := Lib.hid kv.drew
                clear hh kv
                by_cases hi : i < n
                · have hdi : (i : Int) < (n : Int) := by omega
                  have hi0 : (0 : Int) ≤ (i : Int) := by omega
                  have HI := Lib.hid hi
                  have wi : IntKind.i64.wrap ((i : Int) + 1) = ((i + 1 : Nat) : Int) := by rw [IntWalk.i64_in _ ⟨by omega, by have := HL20.out; omega⟩]; omega
                  have hiL : i < L.length := by have := HLN.out; omega
                  obtain ⟨ga, oa, rfl, hrec⟩ := HR.out (by omega)
                  have e1 := (hrec i L[i] (List.getElem?_eq_getElem hiL)).keptS HK3.out (fun x => x)
                  have ats := any_take_succ (p := fun p => eqP p ⟨yk, yv⟩) (List.getElem?_eq_getElem hiL)
                  obtain ⟨x, hx⟩ : ∃ p, p = L[i] := ⟨_, rfl⟩
                  rw [← hx] at e1 ats
                  rw [← HH.out] at ats
                  obtain ⟨xk, xv⟩ := x
                  have hnp := eql_pair xk xv yk yv
                  obtain ⟨b4, hb4⟩ : ∃ b, b = eqP ⟨xk, xv⟩ ⟨yk, yv⟩ := ⟨_, rfl⟩
                  rw [show ((xk.toList == yk.toList) && (xv.toList == yv.toList)) = b4 from hb4.symm] at hnp
                  rw [← hb4] at ats
                  have HAT := Lib.hid ats
                  have HSS : Hid ((fun w' => w'.cell? ⟨ga, oa + i * 2, none⟩ = some (.string xk) ∧ w'.cell? ⟨ga, oa + i * 2 + 1, none⟩ = some (.string xv) ∧ w'.cell? ⟨gb, ob + j * 2, none⟩ = some (.string yk) ∧ w'.cell? ⟨gb, ob + j * 2 + 1, none⟩ = some (.string yv)) wr.drew) := Lib.hid ⟨e1.c0, e1.c1, HK3.out.cell HY0.out (fun x => x), HK3.out.cell HY1.out (fun x => x)⟩
                  clear hi hin hiL hrec e1 ats hx hb4
                  cases h with
                  | true =>
                    clear hnp
                    go_upto_region 13 with fail
                    refine AnyBut.start (S := fun w' => w'.cell? ⟨ga, oa + i * 2, none⟩ = some (.string xk) ∧ w'.cell? ⟨ga, oa + i * 2 + 1, none⟩ = some (.string xv) ∧ w'.cell? ⟨gb, ob + j * 2, none⟩ = some (.string yk) ∧ w'.cell? ⟨gb, ob + j * 2 + 1, none⟩ = some (.string yv)) (k := 13) (by kernel_rfl) ?_
                    refine AnyBut.takeS (i := 0) (v := ?v105) rfl (by kernel_rfl) (Nat.le_of_eq (by kernel_rfl)) (by kernel_rfl) (by kernel_rfl) (fun _ _ _ h => h) (HSS.out) (Or.inl ⟨by kernel_rfl, ?hy105⟩) ?r105
                    case hy105 =>
                      intro w hSw
                      try dsimp only at hSw
                      go_simp
                      try with_reducible rfl
                    try simp only [Act.put, List.getElem_toArray, List.getElem_cons_zero, List.setIfInBounds_toArray, List.set_cons_zero, List.set_cons_succ]
                    refine AnyBut.takeS (i := 1) (v := ?v106) rfl (by kernel_rfl) (Nat.le_of_eq (by kernel_rfl)) (by kernel_rfl) (by kernel_rfl) (fun _ _ _ h => h) (HSS.out) (Or.inl ⟨by kernel_rfl, ?hy106⟩) ?r106
                    case hy106 =>
                      intro w hSw
                      try dsimp only at hSw
                      go_simp
                      try with_reducible rfl
                    try simp only [Act.put, List.getElem_toArray, List.getElem_cons_succ, List.getElem_cons_zero, List.setIfInBounds_toArray, List.set_cons_zero, List.set_cons_succ]
                    refine AnyBut.takeS (i := 2) (v := undef) rfl (by kernel_rfl) (Nat.le_of_eq (by kernel_rfl)) (by kernel_rfl) (by kernel_rfl) (fun _ _ _ h => h) (HSS.out) (Or.inr ⟨by kernel_rfl, rfl⟩) ?r107
                    try simp only [Act.put, List.getElem_toArray, List.getElem_cons_succ, List.getElem_cons_zero, List.setIfInBounds_toArray, List.set_cons_zero, List.set_cons_succ]
                    refine AnyBut.takeS (i := 3) (v := undef) rfl (by kernel_rfl) (Nat.le_of_eq (by kernel_rfl)) (by kernel_rfl) (by kernel_rfl) (fun _ _ _ h => h) (HSS.out) (Or.inr ⟨by kernel_rfl, rfl⟩) ?r108
                    try simp only [Act.put, List.getElem_toArray, List.getElem_cons_succ, List.getElem_cons_zero, List.setIfInBounds_toArray, List.set_cons_zero, List.set_cons_succ]
                    refine AnyBut.takeS (i := 4) (v := undef) rfl (by kernel_rfl) (Nat.le_of_eq (by kernel_rfl)) (by kernel_rfl) (by kernel_rfl) (fun _ _ _ h => h) (HSS.out) (Or.inr ⟨by kernel_rfl, rfl⟩) ?r109
                    try simp only [Act.put, List.getElem_toArray, List.getElem_cons_succ, List.getElem_cons_zero, List.setIfInBounds_toArray, List.set_cons_zero, List.set_cons_succ]
                    refine AnyBut.takeS (i := 5) (v := undef) rfl (by kernel_rfl) (Nat.le_of_eq (by kernel_rfl)) (by kernel_rfl) (by kernel_rfl) (fun _ _ _ h => h) (HSS.out) (Or.inr ⟨by kernel_rfl, rfl⟩) ?r110
                    try simp only [Act.put, List.getElem_toArray, List.getElem_cons_succ, List.getElem_cons_zero, List.setIfInBounds_toArray, List.set_cons_zero, List.set_cons_succ]
                    refine AnyBut.takeS (i := 6) (v := undef) rfl (by kernel_rfl) (Nat.le_of_eq (by kernel_rfl)) (by kernel_rfl) (by kernel_rfl) (fun _ _ _ h => h) (HSS.out) (Or.inr ⟨by kernel_rfl, rfl⟩) ?r111
                    try simp only [Act.put, List.getElem_toArray, List.getElem_cons_succ, List.getElem_cons_zero, List.setIfInBounds_toArray, List.set_cons_zero, List.set_cons_succ]
                    refine AnyBut.takeS (i := 7) (v := undef) rfl (by kernel_rfl) (Nat.le_of_eq (by kernel_rfl)) (by kernel_rfl) (by kernel_rfl) (fun _ _ _ h => h) (HSS.out) (Or.inr ⟨by kernel_rfl, rfl⟩) ?r112
                    try simp only [Act.put, List.getElem_toArray, List.getElem_cons_succ, List.getElem_cons_zero, List.setIfInBounds_toArray, List.set_cons_zero, List.set_cons_succ]
                    refine AnyBut.takeS (i := 8) (v := undef) rfl (by kernel_rfl) (Nat.le_of_eq (by kernel_rfl)) (by kernel_rfl) (by kernel_rfl) (fun _ _ _ h => h) (HSS.out) (Or.inr ⟨by kernel_rfl, rfl⟩) ?r113
                    try simp only [Act.put, List.getElem_toArray, List.getElem_cons_succ, List.getElem_cons_zero, List.setIfInBounds_toArray, List.set_cons_zero, List.set_cons_succ]
                    refine AnyBut.takeS (i := 9) (v := undef) rfl (by kernel_rfl) (Nat.le_of_eq (by kernel_rfl)) (by kernel_rfl) (by kernel_rfl) (fun _ _ _ h => h) (HSS.out) (Or.inr ⟨by kernel_rfl, rfl⟩) ?r114
                    try simp only [Act.put, List.getElem_toArray, List.getElem_cons_succ, List.getElem_cons_zero, List.setIfInBounds_toArray, List.set_cons_zero, List.set_cons_succ]
                    refine AnyBut.takeS (i := 10) (v := undef) rfl (by kernel_rfl) (Nat.le_of_eq (by kernel_rfl)) (by kernel_rfl) (by kernel_rfl) (fun _ _ _ h => h) (HSS.out) (Or.inr ⟨by kernel_rfl, rfl⟩) ?r115
                    try simp only [Act.put, List.getElem_toArray, List.getElem_cons_succ, List.getElem_cons_zero, List.setIfInBounds_toArray, List.set_cons_zero, List.set_cons_succ]
                    refine AnyBut.takeS (i := 11) (v := ?v116) rfl (by kernel_rfl) (Nat.le_of_eq (by kernel_rfl)) (by kernel_rfl) (by kernel_rfl) (fun _ _ _ h => h) (HSS.out) (Or.inl ⟨by kernel_rfl, ?hy116⟩) ?r116
                    case hy116 =>
                      intro w hSw
                      try dsimp only at hSw
                      go_simp
                      try with_reducible rfl
                    try simp only [Act.put, List.getElem_toArray, List.getElem_cons_succ, List.getElem_cons_zero, List.setIfInBounds_toArray, List.set_cons_zero, List.set_cons_succ]
                    refine AnyBut.takeS (i := 12) (v := ?v117) rfl (by kernel_rfl) (Nat.le_of_eq (by kernel_rfl)) (by kernel_rfl) (by kernel_rfl) (fun _ _ _ h => h) (HSS.out) (Or.inl ⟨by kernel_rfl, ?hy117⟩) ?r117
                    case hy117 =>
                      intro w hSw
                      try dsimp only at hSw
                      go_simp
                      try with_reducible rfl
                    try simp only [Act.put, List.getElem_toArray, List.getElem_cons_succ, List.getElem_cons_zero, List.setIfInBounds_toArray, List.set_cons_zero, List.set_cons_succ]
                    refine AnyBut.done (by kernel_rfl) ?_
                    go_wp2
                    go_roundg (n - (i + 1))
                    case measure => have := HI.out; omega
                    case rel => exact ⟨i + 1, true, HI.out, rfl, rfl, HAT.out.symm, rfl, HK3.out⟩
                  | false =>
                    go_upto_region 13 with fail
                    refine AnyBut.start (S := fun w' => w'.cell? ⟨ga, oa + i * 2, none⟩ = some (.string xk) ∧ w'.cell? ⟨ga, oa + i * 2 + 1, none⟩ = some (.string xv) ∧ w'.cell? ⟨gb, ob + j * 2, none⟩ = some (.string yk) ∧ w'.cell? ⟨gb, ob + j * 2 + 1, none⟩ = some (.string yv)) (k := 13) (by kernel_rfl) ?_
                    refine AnyBut.takeS (i := 0) (v := ?v118) rfl (by kernel_rfl) (Nat.le_of_eq (by kernel_rfl)) (by kernel_rfl) (by kernel_rfl) (fun _ _ _ h => h) (HSS.out) (Or.inl ⟨by kernel_rfl, ?hy118⟩) ?r118
                    case hy118 =>
                      intro w hSw
                      try dsimp only at hSw
                      go_simp
                      try with_reducible rfl
                    try simp only [Act.put, List.getElem_toArray, List.getElem_cons_zero, List.setIfInBounds_toArray, List.set_cons_zero, List.set_cons_succ]
                    refine AnyBut.takeS (i := 1) (v := ?v119) rfl (by kernel_rfl) (Nat.le_of_eq (by kernel_rfl)) (by kernel_rfl) (by kernel_rfl) (fun _ _ _ h => h) (HSS.out) (Or.inl ⟨by kernel_rfl, ?hy119⟩) ?r119
                    case hy119 =>
                      intro w hSw
                      try dsimp only at hSw
                      go_simp
                      try with_reducible rfl
                    try simp only [Act.put, List.getElem_toArray, List.getElem_cons_succ, List.getElem_cons_zero, List.setIfInBounds_toArray, List.set_cons_zero, List.set_cons_succ]
                    refine AnyBut.takeS (i := 2) (v := ?v120) rfl (by kernel_rfl) (Nat.le_of_eq (by kernel_rfl)) (by kernel_rfl) (by kernel_rfl) (fun _ _ _ h => h) (HSS.out) (Or.inl ⟨by kernel_rfl, ?hy120⟩) ?r120
                    case hy120 =>
                      intro w hSw
                      try dsimp only at hSw
                      go_simp
                      try with_reducible rfl
                    try simp only [Act.put, List.getElem_toArray, List.getElem_cons_succ, List.getElem_cons_zero, List.setIfInBounds_toArray, List.set_cons_zero, List.set_cons_succ]
                    refine AnyBut.takeS (i := 3) (v := ?v121) rfl (by kernel_rfl) (Nat.le_of_eq (by kernel_rfl)) (by kernel_rfl) (by kernel_rfl) (fun _ _ _ h => h) (HSS.out) (Or.inl ⟨by kernel_rfl, ?hy121⟩) ?r121
                    case hy121 =>
                      intro w hSw
                      try dsimp only at hSw
                      go_simp
                      try with_reducible rfl
                    try simp only [Act.put, List.getElem_toArray, List.getElem_cons_succ, List.getElem_cons_zero, List.setIfInBounds_toArray, List.set_cons_zero, List.set_cons_succ]
                    refine AnyBut.takeS (i := 4) (v := ?v122) rfl (by kernel_rfl) (Nat.le_of_eq (by kernel_rfl)) (by kernel_rfl) (by kernel_rfl) (fun _ _ _ h => h) (HSS.out) (Or.inl ⟨by kernel_rfl, ?hy122⟩) ?r122
                    case hy122 =>
                      intro w hSw
                      try dsimp only at hSw
                      go_simp
                      try with_reducible rfl
                    try simp only [Act.put, List.getElem_toArray, List.getElem_cons_succ, List.getElem_cons_zero, List.setIfInBounds_toArray, List.set_cons_zero, List.set_cons_succ]
                    refine AnyBut.takeS (i := 5) (v := ?v123) rfl (by kernel_rfl) (Nat.le_of_eq (by kernel_rfl)) (by kernel_rfl) (by kernel_rfl) (fun _ _ _ h => h) (HSS.out) (Or.inl ⟨by kernel_rfl, ?hy123⟩) ?r123
                    case hy123 =>
                      intro w hSw
                      try dsimp only at hSw
                      go_simp
                      try with_reducible rfl
                    try simp only [Act.put, List.getElem_toArray, List.getElem_cons_succ, List.getElem_cons_zero, List.setIfInBounds_toArray, List.set_cons_zero, List.set_cons_succ]
                    refine AnyBut.takeS (i := 6) (v := ?v124) rfl (by kernel_rfl) (Nat.le_of_eq (by kernel_rfl)) (by kernel_rfl) (by kernel_rfl) (fun _ _ _ h => h) (HSS.out) (Or.inl ⟨by kernel_rfl, ?hy124⟩) ?r124
                    case hy124 =>
                      intro w hSw
                      try dsimp only at hSw
                      go_simp
                      try with_reducible rfl
                    try simp only [Act.put, List.getElem_toArray, List.getElem_cons_succ, List.getElem_cons_zero, List.setIfInBounds_toArray, List.set_cons_zero, List.set_cons_succ]
                    refine AnyBut.takeS (i := 7) (v := ?v125) rfl (by kernel_rfl) (Nat.le_of_eq (by kernel_rfl)) (by kernel_rfl) (by kernel_rfl) (fun _ _ _ h => h) (HSS.out) (Or.inl ⟨by kernel_rfl, ?hy125⟩) ?r125
                    case hy125 =>
                      intro w hSw
                      try dsimp only at hSw
                      go_simp
                      try with_reducible rfl
                    try simp only [Act.put, List.getElem_toArray, List.getElem_cons_succ, List.getElem_cons_zero, List.setIfInBounds_toArray, List.set_cons_zero, List.set_cons_succ]
                    refine AnyBut.takeS (i := 8) (v := ?v126) rfl (by kernel_rfl) (Nat.le_of_eq (by kernel_rfl)) (by kernel_rfl) (by kernel_rfl) (fun _ _ _ h => h) (HSS.out) (Or.inl ⟨by kernel_rfl, ?hy126⟩) ?r126
                    case hy126 =>
                      intro w hSw
                      try dsimp only at hSw
                      go_simp
                      try with_reducible rfl
                    try simp only [Act.put, List.getElem_toArray, List.getElem_cons_succ, List.getElem_cons_zero, List.setIfInBounds_toArray, List.set_cons_zero, List.set_cons_succ]
                    refine AnyBut.takeS (i := 9) (v := ?v127) rfl (by kernel_rfl) (Nat.le_of_eq (by kernel_rfl)) (by kernel_rfl) (by kernel_rfl) (fun _ _ _ h => h) (HSS.out) (Or.inl ⟨by kernel_rfl, ?hy127⟩) ?r127
                    case hy127 =>
                      intro w hSw
                      try dsimp only at hSw
                      go_simp
                      try with_reducible rfl
                    try simp only [Act.put, List.getElem_toArray, List.getElem_cons_succ, List.getElem_cons_zero, List.setIfInBounds_toArray, List.set_cons_zero, List.set_cons_succ]
                    refine AnyBut.takeS (i := 10) (v := ?v128) rfl (by kernel_rfl) (Nat.le_of_eq (by kernel_rfl)) (by kernel_rfl) (by kernel_rfl) (fun _ _ _ h => h) (HSS.out) (Or.inl ⟨by kernel_rfl, ?hy128⟩) ?r128
                    case hy128 =>
                      intro w hSw
                      try dsimp only at hSw
                      go_simp
                      try with_reducible rfl
                    try simp only [Act.put, List.getElem_toArray, List.getElem_cons_succ, List.getElem_cons_zero, List.setIfInBounds_toArray, List.set_cons_zero, List.set_cons_succ]
                    refine AnyBut.takeS (i := 11) (v := ?v129) rfl (by kernel_rfl) (Nat.le_of_eq (by kernel_rfl)) (by kernel_rfl) (by kernel_rfl) (fun _ _ _ h => h) (HSS.out) (Or.inl ⟨by kernel_rfl, ?hy129⟩) ?r129
                    case hy129 =>
                      intro w hSw
                      try dsimp only at hSw
                      go_simp
                      try with_reducible rfl
                    try simp only [Act.put, List.getElem_toArray, List.getElem_cons_succ, List.getElem_cons_zero, List.setIfInBounds_toArray, List.set_cons_zero, List.set_cons_succ]
                    refine AnyBut.takeS (i := 12) (v := ?v130) rfl (by kernel_rfl) (Nat.le_of_eq (by kernel_rfl)) (by kernel_rfl) (by kernel_rfl) (fun _ _ _ h => h) (HSS.out) (Or.inl ⟨by kernel_rfl, ?hy130⟩) ?r130
                    case hy130 =>
                      intro w hSw
                      try dsimp only at hSw
                      go_simp
                      try with_reducible rfl
                    try simp only [Act.put, List.getElem_toArray, List.getElem_cons_succ, List.getElem_cons_zero, List.setIfInBounds_toArray, List.set_cons_zero, List.set_cons_succ]
                    refine AnyBut.done (by kernel_rfl) ?_
                    go_wp2
                    go_roundg (n - (i + 1))
                    case measure => have := HI.out; omega
                    case rel => exact ⟨i + 1, b4, HI.out, rfl, rfl, by rw [HAT.out]; rfl, rfl, HK3.out⟩
                · obtain rfl : n = i := by omega
                  have hh := HH.out
                  rw [HLN.out, List.take_length] at hh
                  have hws := HWS.out
                  rw [← hh] at hws
                  have HW2 := Lib.hid hws
                  clear hi hh hws
                  cases b with
                  | true =>
                    go_wp2
                    go_roundg (m - (j + 1))
                    case measure => have := HD.out; omega
                    case rel => exact ⟨j + 1, h, HD.out, rfl, rfl, by rw [HW2.out]; rfl, rfl, HK2.out⟩
                  | false =>
                    go_wp2
                    go_roundg (m - (j + 1))
                    case measure => have := HD.out; omega
                    case rel => exact ⟨j + 1, false, HD.out, rfl, rfl, by rw [HW2.out]; rfl, rfl, HK2.out⟩
            · obtain rfl : m = j := by omega
              clear hd
              obtain rfl : b = true := HB.out.trans HWA.out
              go_wp2_with fail
              refine (HMT1.out _ HK.out).mono ?_
              rintro e w4 ⟨rfl, k4⟩
              have K4 := HK.out.trans k4
              go_wp2_with fail
              refine (HMT2.out _ K4).mono ?_
              rintro e w5 ⟨rfl, k5⟩
              have K5 := K4.trans k5
              go_wp2_with fail
              refine (HT1.out _ K5).mono ?_
              rintro e w6 ⟨rfl, k6⟩
              have K6 := K5.trans k6
              go_wp2_with fail
              refine (HT2.out _ K6).mono ?_
              rintro e w7 ⟨rfl, k7⟩
              have K7 := K6.trans k7
              go_wp2
              go_ret
              exact ⟨by cases G2 <;> rfl, K7⟩
    · rw [decide_eq_false hE2, Bool.false_and] at hwa hmm
      have qE2 : ((E2 : Int) == 0) = false := beqF (by omega)
      obtain rfl : G = false := hwa.symm
      have HWA := Lib.hid hwa
      clear hE2 hwa hmm
      go_enter Tryd.func6, Tryd.ntmps6
      go_wp2_with fail
      refine HA.out.mono ?_
      rintro e w1 ⟨rfl, k1⟩
      go_wp2_with fail
      refine (HL1.out w1 k1).mono ?_
      rintro e w' ⟨rfl, rfl⟩
      go_wp2_with fail
      refine (HL2.out w1 k1).mono ?_
      rintro e w' ⟨rfl, rfl⟩
      go_wp2_with fail
      refine (HC1.out _ k1).mono ?_
      rintro e w2 ⟨rfl, k2⟩
      have K2 := k1.trans k2
      go_wp2_with fail
      refine (HC2.out _ K2).mono ?_
      rintro e w3 ⟨rfl, k3⟩
      have K3 := K2.trans k3
      go_wp2
      go_loopg [9, 10] m (fun g s9 s10 wr => ∃ (j : Nat) (b : Bool), j ≤ m ∧ g = m - j ∧ s9 = .bool b ∧ b = wantN false L M j ∧ s10 = .int .i64 j ∧ Kept (fun _ => False) W wr)
      case atStart => exact ⟨0, false, Nat.zero_le _, rfl, rfl, rfl, rfl, K3⟩
      case round =>
        obtain ⟨j, b, hjm, rfl, rfl, hb, rfl, kw⟩ := hrel
        have HB := Lib.hid hb
        have HK := Lib.hid kw
        clear hb kw
        by_cases hd : j < m
        · have hdj : (j : Int) < (m : Int) := by omega
          have hj0 : (0 : Int) ≤ (j : Int) := by omega
          have HD := Lib.hid hd
          have wj : IntKind.i64.wrap ((j : Int) + 1) = ((j + 1 : Nat) : Int) := by rw [IntWalk.i64_in _ ⟨by omega, by have := HM20.out; omega⟩]; omega
          have hjL : j < M.length := by have := HMN.out; omega
          obtain ⟨gb, ob, rfl, hrec2⟩ := HS.out (by omega)
          have e2 := hrec2 j M[j] (List.getElem?_eq_getElem hjL)
          have ws := wantN_succ (B := false) (L := L) (List.getElem?_eq_getElem hjL)
          obtain ⟨y, hy⟩ : ∃ p, p = M[j] := ⟨_, rfl⟩
          rw [← hy] at e2 ws
          rw [← HB.out] at ws
          have HWS := Lib.hid ws
          obtain ⟨yk, yv⟩ := y
          have HY0 := Lib.hid e2.c0
          have HY1 := Lib.hid e2.c1
          dsimp only at HY0 HY1
          clear hd hjm hjL hrec2 e2 ws hy
          go_wp2
          go_loopg [11, 12] n (fun g s11 s12 ws => ∃ (i : Nat) (h : Bool), i ≤ n ∧ g = n - i ∧ s11 = .bool h ∧ h = (L.take i).any (fun p => eqP p ⟨yk, yv⟩) ∧ s12 = .int .i64 i ∧ Kept (fun _ => False) W ws)
          case atStart => exact ⟨0, false, Nat.zero_le _, rfl, rfl, rfl, rfl, HK.out⟩
          case round =>
            obtain ⟨i, h, hin, rfl, rfl, hh, rfl, kv⟩ := hrel
            have HH := Lib.hid hh
            have HK2 := Lib.hid kv
            have HK3 := Lib.hid kv.drew
            clear hh kv
            by_cases hi : i < n
            · have hdi : (i : Int) < (n : Int) := by omega
              have hi0 : (0 : Int) ≤ (i : Int) := by omega
              have HI := Lib.hid hi
              have wi : IntKind.i64.wrap ((i : Int) + 1) = ((i + 1 : Nat) : Int) := by rw [IntWalk.i64_in _ ⟨by omega, by have := HL20.out; omega⟩]; omega
              have hiL : i < L.length := by have := HLN.out; omega
              obtain ⟨ga, oa, rfl, hrec⟩ := HR.out (by omega)
              have e1 := (hrec i L[i] (List.getElem?_eq_getElem hiL)).keptS HK3.out (fun x => x)
              have ats := any_take_succ (p := fun p => eqP p ⟨yk, yv⟩) (List.getElem?_eq_getElem hiL)
              obtain ⟨x, hx⟩ : ∃ p, p = L[i] := ⟨_, rfl⟩
              rw [← hx] at e1 ats
              rw [← HH.out] at ats
              obtain ⟨xk, xv⟩ := x
              have hnp := eql_pair xk xv yk yv
              obtain ⟨b4, hb4⟩ : ∃ b, b = eqP ⟨xk, xv⟩ ⟨yk, yv⟩ := ⟨_, rfl⟩
              rw [show ((xk.toList == yk.toList) && (xv.toList == yv.toList)) = b4 from hb4.symm] at hnp
              rw [← hb4] at ats
              have HAT := Lib.hid ats
              have HSS : Hid ((fun w' => w'.cell? ⟨ga, oa + i * 2, none⟩ = some (.string xk) ∧ w'.cell? ⟨ga, oa + i * 2 + 1, none⟩ = some (.string xv) ∧ w'.cell? ⟨gb, ob + j * 2, none⟩ = some (.string yk) ∧ w'.cell? ⟨gb, ob + j * 2 + 1, none⟩ = some (.string yv)) wr.drew) := Lib.hid ⟨e1.c0, e1.c1, HK3.out.cell HY0.out (fun x => x), HK3.out.cell HY1.out (fun x => x)⟩
              clear hi hin hiL hrec e1 ats hx hb4
              cases h with
              | true =>
                clear hnp
                go_upto_region 13 with fail
                refine AnyBut.start (S := fun w' => w'.cell? ⟨ga, oa + i * 2, none⟩ = some (.string xk) ∧ w'.cell? ⟨ga, oa + i * 2 + 1, none⟩ = some (.string xv) ∧ w'.cell? ⟨gb, ob + j * 2, none⟩ = some (.string yk) ∧ w'.cell? ⟨gb, ob + j * 2 + 1, none⟩ = some (.string yv)) (k := 13) (by kernel_rfl) ?_
                refine AnyBut.takeS (i := 0) (v := ?v27) rfl (by kernel_rfl) (Nat.le_of_eq (by kernel_rfl)) (by kernel_rfl) (by kernel_rfl) (fun _ _ _ h => h) (HSS.out) (Or.inl ⟨by kernel_rfl, ?hy27⟩) ?r27
                case hy27 =>
                  intro w hSw
                  try dsimp only at hSw
                  go_simp
                  try with_reducible rfl
                try simp only [Act.put, List.getElem_toArray, List.getElem_cons_zero, List.setIfInBounds_toArray, List.set_cons_zero, List.set_cons_succ]
                refine AnyBut.takeS (i := 1) (v := ?v28) rfl (by kernel_rfl) (Nat.le_of_eq (by kernel_rfl)) (by kernel_rfl) (by kernel_rfl) (fun _ _ _ h => h) (HSS.out) (Or.inl ⟨by kernel_rfl, ?hy28⟩) ?r28
                case hy28 =>
                  intro w hSw
                  try dsimp only at hSw
                  go_simp
                  try with_reducible rfl
                try simp only [Act.put, List.getElem_toArray, List.getElem_cons_succ, List.getElem_cons_zero, List.setIfInBounds_toArray, List.set_cons_zero, List.set_cons_succ]
                refine AnyBut.takeS (i := 2) (v := undef) rfl (by kernel_rfl) (Nat.le_of_eq (by kernel_rfl)) (by kernel_rfl) (by kernel_rfl) (fun _ _ _ h => h) (HSS.out) (Or.inr ⟨by kernel_rfl, rfl⟩) ?r29
                try simp only [Act.put, List.getElem_toArray, List.getElem_cons_succ, List.getElem_cons_zero, List.setIfInBounds_toArray, List.set_cons_zero, List.set_cons_succ]
                refine AnyBut.takeS (i := 3) (v := undef) rfl (by kernel_rfl) (Nat.le_of_eq (by kernel_rfl)) (by kernel_rfl) (by kernel_rfl) (fun _ _ _ h => h) (HSS.out) (Or.inr ⟨by kernel_rfl, rfl⟩) ?r30
                try simp only [Act.put, List.getElem_toArray, List.getElem_cons_succ, List.getElem_cons_zero, List.setIfInBounds_toArray, List.set_cons_zero, List.set_cons_succ]
                refine AnyBut.takeS (i := 4) (v := undef) rfl (by kernel_rfl) (Nat.le_of_eq (by kernel_rfl)) (by kernel_rfl) (by kernel_rfl) (fun _ _ _ h => h) (HSS.out) (Or.inr ⟨by kernel_rfl, rfl⟩) ?r31
                try simp only [Act.put, List.getElem_toArray, List.getElem_cons_succ, List.getElem_cons_zero, List.setIfInBounds_toArray, List.set_cons_zero, List.set_cons_succ]
                refine AnyBut.takeS (i := 5) (v := undef) rfl (by kernel_rfl) (Nat.le_of_eq (by kernel_rfl)) (by kernel_rfl) (by kernel_rfl) (fun _ _ _ h => h) (HSS.out) (Or.inr ⟨by kernel_rfl, rfl⟩) ?r32
                try simp only [Act.put, List.getElem_toArray, List.getElem_cons_succ, List.getElem_cons_zero, List.setIfInBounds_toArray, List.set_cons_zero, List.set_cons_succ]
                refine AnyBut.takeS (i := 6) (v := undef) rfl (by kernel_rfl) (Nat.le_of_eq (by kernel_rfl)) (by kernel_rfl) (by kernel_rfl) (fun _ _ _ h => h) (HSS.out) (Or.inr ⟨by kernel_rfl, rfl⟩) ?r33
                try simp only [Act.put, List.getElem_toArray, List.getElem_cons_succ, List.getElem_cons_zero, List.setIfInBounds_toArray, List.set_cons_zero, List.set_cons_succ]
                refine AnyBut.takeS (i := 7) (v := undef) rfl (by kernel_rfl) (Nat.le_of_eq (by kernel_rfl)) (by kernel_rfl) (by kernel_rfl) (fun _ _ _ h => h) (HSS.out) (Or.inr ⟨by kernel_rfl, rfl⟩) ?r34
                try simp only [Act.put, List.getElem_toArray, List.getElem_cons_succ, List.getElem_cons_zero, List.setIfInBounds_toArray, List.set_cons_zero, List.set_cons_succ]
                refine AnyBut.takeS (i := 8) (v := undef) rfl (by kernel_rfl) (Nat.le_of_eq (by kernel_rfl)) (by kernel_rfl) (by kernel_rfl) (fun _ _ _ h => h) (HSS.out) (Or.inr ⟨by kernel_rfl, rfl⟩) ?r35
                try simp only [Act.put, List.getElem_toArray, List.getElem_cons_succ, List.getElem_cons_zero, List.setIfInBounds_toArray, List.set_cons_zero, List.set_cons_succ]
                refine AnyBut.takeS (i := 9) (v := undef) rfl (by kernel_rfl) (Nat.le_of_eq (by kernel_rfl)) (by kernel_rfl) (by kernel_rfl) (fun _ _ _ h => h) (HSS.out) (Or.inr ⟨by kernel_rfl, rfl⟩) ?r36
                try simp only [Act.put, List.getElem_toArray, List.getElem_cons_succ, List.getElem_cons_zero, List.setIfInBounds_toArray, List.set_cons_zero, List.set_cons_succ]
                refine AnyBut.takeS (i := 10) (v := undef) rfl (by kernel_rfl) (Nat.le_of_eq (by kernel_rfl)) (by kernel_rfl) (by kernel_rfl) (fun _ _ _ h => h) (HSS.out) (Or.inr ⟨by kernel_rfl, rfl⟩) ?r37
                try simp only [Act.put, List.getElem_toArray, List.getElem_cons_succ, List.getElem_cons_zero, List.setIfInBounds_toArray, List.set_cons_zero, List.set_cons_succ]
                refine AnyBut.takeS (i := 11) (v := ?v38) rfl (by kernel_rfl) (Nat.le_of_eq (by kernel_rfl)) (by kernel_rfl) (by kernel_rfl) (fun _ _ _ h => h) (HSS.out) (Or.inl ⟨by kernel_rfl, ?hy38⟩) ?r38
                case hy38 =>
                  intro w hSw
                  try dsimp only at hSw
                  go_simp
                  try with_reducible rfl
                try simp only [Act.put, List.getElem_toArray, List.getElem_cons_succ, List.getElem_cons_zero, List.setIfInBounds_toArray, List.set_cons_zero, List.set_cons_succ]
                refine AnyBut.takeS (i := 12) (v := ?v39) rfl (by kernel_rfl) (Nat.le_of_eq (by kernel_rfl)) (by kernel_rfl) (by kernel_rfl) (fun _ _ _ h => h) (HSS.out) (Or.inl ⟨by kernel_rfl, ?hy39⟩) ?r39
                case hy39 =>
                  intro w hSw
                  try dsimp only at hSw
                  go_simp
                  try with_reducible rfl
                try simp only [Act.put, List.getElem_toArray, List.getElem_cons_succ, List.getElem_cons_zero, List.setIfInBounds_toArray, List.set_cons_zero, List.set_cons_succ]
                refine AnyBut.done (by kernel_rfl) ?_
                go_wp2
                go_roundg (n - (i + 1))
                case measure => have := HI.out; omega
                case rel => exact ⟨i + 1, true, HI.out, rfl, rfl, HAT.out.symm, rfl, HK3.out⟩
              | false =>
                go_upto_region 13 with fail
                refine AnyBut.start (S := fun w' => w'.cell? ⟨ga, oa + i * 2, none⟩ = some (.string xk) ∧ w'.cell? ⟨ga, oa + i * 2 + 1, none⟩ = some (.string xv) ∧ w'.cell? ⟨gb, ob + j * 2, none⟩ = some (.string yk) ∧ w'.cell? ⟨gb, ob + j * 2 + 1, none⟩ = some (.string yv)) (k := 13) (by kernel_rfl) ?_
                refine AnyBut.takeS (i := 0) (v := ?v40) rfl (by kernel_rfl) (Nat.le_of_eq (by kernel_rfl)) (by kernel_rfl) (by kernel_rfl) (fun _ _ _ h => h) (HSS.out) (Or.inl ⟨by kernel_rfl, ?hy40⟩) ?r40
                case hy40 =>
                  intro w hSw
                  try dsimp only at hSw
                  go_simp
                  try with_reducible rfl
                try simp only [Act.put, List.getElem_toArray, List.getElem_cons_zero, List.setIfInBounds_toArray, List.set_cons_zero, List.set_cons_succ]
                refine AnyBut.takeS (i := 1) (v := ?v41) rfl (by kernel_rfl) (Nat.le_of_eq (by kernel_rfl)) (by kernel_rfl) (by kernel_rfl) (fun _ _ _ h => h) (HSS.out) (Or.inl ⟨by kernel_rfl, ?hy41⟩) ?r41
                case hy41 =>
                  intro w hSw
                  try dsimp only at hSw
                  go_simp
                  try with_reducible rfl
                try simp only [Act.put, List.getElem_toArray, List.getElem_cons_succ, List.getElem_cons_zero, List.setIfInBounds_toArray, List.set_cons_zero, List.set_cons_succ]
                refine AnyBut.takeS (i := 2) (v := ?v42) rfl (by kernel_rfl) (Nat.le_of_eq (by kernel_rfl)) (by kernel_rfl) (by kernel_rfl) (fun _ _ _ h => h) (HSS.out) (Or.inl ⟨by kernel_rfl, ?hy42⟩) ?r42
                case hy42 =>
                  intro w hSw
                  try dsimp only at hSw
                  go_simp
                  try with_reducible rfl
                try simp only [Act.put, List.getElem_toArray, List.getElem_cons_succ, List.getElem_cons_zero, List.setIfInBounds_toArray, List.set_cons_zero, List.set_cons_succ]
                refine AnyBut.takeS (i := 3) (v := ?v43) rfl (by kernel_rfl) (Nat.le_of_eq (by kernel_rfl)) (by kernel_rfl) (by kernel_rfl) (fun _ _ _ h => h) (HSS.out) (Or.inl ⟨by kernel_rfl, ?hy43⟩) ?r43
                case hy43 =>
                  intro w hSw
                  try dsimp only at hSw
                  go_simp
                  try with_reducible rfl
                try simp only [Act.put, List.getElem_toArray, List.getElem_cons_succ, List.getElem_cons_zero, List.setIfInBounds_toArray, List.set_cons_zero, List.set_cons_succ]
                refine AnyBut.takeS (i := 4) (v := ?v44) rfl (by kernel_rfl) (Nat.le_of_eq (by kernel_rfl)) (by kernel_rfl) (by kernel_rfl) (fun _ _ _ h => h) (HSS.out) (Or.inl ⟨by kernel_rfl, ?hy44⟩) ?r44
                case hy44 =>
                  intro w hSw
                  try dsimp only at hSw
                  go_simp
                  try with_reducible rfl
                try simp only [Act.put, List.getElem_toArray, List.getElem_cons_succ, List.getElem_cons_zero, List.setIfInBounds_toArray, List.set_cons_zero, List.set_cons_succ]
                refine AnyBut.takeS (i := 5) (v := ?v45) rfl (by kernel_rfl) (Nat.le_of_eq (by kernel_rfl)) (by kernel_rfl) (by kernel_rfl) (fun _ _ _ h => h) (HSS.out) (Or.inl ⟨by kernel_rfl, ?hy45⟩) ?r45
                case hy45 =>
                  intro w hSw
                  try dsimp only at hSw
                  go_simp
                  try with_reducible rfl
                try simp only [Act.put, List.getElem_toArray, List.getElem_cons_succ, List.getElem_cons_zero, List.setIfInBounds_toArray, List.set_cons_zero, List.set_cons_succ]
                refine AnyBut.takeS (i := 6) (v := ?v46) rfl (by kernel_rfl) (Nat.le_of_eq (by kernel_rfl)) (by kernel_rfl) (by kernel_rfl) (fun _ _ _ h => h) (HSS.out) (Or.inl ⟨by kernel_rfl, ?hy46⟩) ?r46
                case hy46 =>
                  intro w hSw
                  try dsimp only at hSw
                  go_simp
                  try with_reducible rfl
                try simp only [Act.put, List.getElem_toArray, List.getElem_cons_succ, List.getElem_cons_zero, List.setIfInBounds_toArray, List.set_cons_zero, List.set_cons_succ]
                refine AnyBut.takeS (i := 7) (v := ?v47) rfl (by kernel_rfl) (Nat.le_of_eq (by kernel_rfl)) (by kernel_rfl) (by kernel_rfl) (fun _ _ _ h => h) (HSS.out) (Or.inl ⟨by kernel_rfl, ?hy47⟩) ?r47
                case hy47 =>
                  intro w hSw
                  try dsimp only at hSw
                  go_simp
                  try with_reducible rfl
                try simp only [Act.put, List.getElem_toArray, List.getElem_cons_succ, List.getElem_cons_zero, List.setIfInBounds_toArray, List.set_cons_zero, List.set_cons_succ]
                refine AnyBut.takeS (i := 8) (v := ?v48) rfl (by kernel_rfl) (Nat.le_of_eq (by kernel_rfl)) (by kernel_rfl) (by kernel_rfl) (fun _ _ _ h => h) (HSS.out) (Or.inl ⟨by kernel_rfl, ?hy48⟩) ?r48
                case hy48 =>
                  intro w hSw
                  try dsimp only at hSw
                  go_simp
                  try with_reducible rfl
                try simp only [Act.put, List.getElem_toArray, List.getElem_cons_succ, List.getElem_cons_zero, List.setIfInBounds_toArray, List.set_cons_zero, List.set_cons_succ]
                refine AnyBut.takeS (i := 9) (v := ?v49) rfl (by kernel_rfl) (Nat.le_of_eq (by kernel_rfl)) (by kernel_rfl) (by kernel_rfl) (fun _ _ _ h => h) (HSS.out) (Or.inl ⟨by kernel_rfl, ?hy49⟩) ?r49
                case hy49 =>
                  intro w hSw
                  try dsimp only at hSw
                  go_simp
                  try with_reducible rfl
                try simp only [Act.put, List.getElem_toArray, List.getElem_cons_succ, List.getElem_cons_zero, List.setIfInBounds_toArray, List.set_cons_zero, List.set_cons_succ]
                refine AnyBut.takeS (i := 10) (v := ?v50) rfl (by kernel_rfl) (Nat.le_of_eq (by kernel_rfl)) (by kernel_rfl) (by kernel_rfl) (fun _ _ _ h => h) (HSS.out) (Or.inl ⟨by kernel_rfl, ?hy50⟩) ?r50
                case hy50 =>
                  intro w hSw
                  try dsimp only at hSw
                  go_simp
                  try with_reducible rfl
                try simp only [Act.put, List.getElem_toArray, List.getElem_cons_succ, List.getElem_cons_zero, List.setIfInBounds_toArray, List.set_cons_zero, List.set_cons_succ]
                refine AnyBut.takeS (i := 11) (v := ?v51) rfl (by kernel_rfl) (Nat.le_of_eq (by kernel_rfl)) (by kernel_rfl) (by kernel_rfl) (fun _ _ _ h => h) (HSS.out) (Or.inl ⟨by kernel_rfl, ?hy51⟩) ?r51
                case hy51 =>
                  intro w hSw
                  try dsimp only at hSw
                  go_simp
                  try with_reducible rfl
                try simp only [Act.put, List.getElem_toArray, List.getElem_cons_succ, List.getElem_cons_zero, List.setIfInBounds_toArray, List.set_cons_zero, List.set_cons_succ]
                refine AnyBut.takeS (i := 12) (v := ?v52) rfl (by kernel_rfl) (Nat.le_of_eq (by kernel_rfl)) (by kernel_rfl) (by kernel_rfl) (fun _ _ _ h => h) (HSS.out) (Or.inl ⟨by kernel_rfl, ?hy52⟩) ?r52
                case hy52 =>
                  intro w hSw
                  try dsimp only at hSw
                  go_simp
                  try with_reducible rfl
                try simp only [Act.put, List.getElem_toArray, List.getElem_cons_succ, List.getElem_cons_zero, List.setIfInBounds_toArray, List.set_cons_zero, List.set_cons_succ]
                refine AnyBut.done (by kernel_rfl) ?_
                go_wp2
                go_roundg (n - (i + 1))
                case measure => have := HI.out; omega
                case rel => exact ⟨i + 1, b4, HI.out, rfl, rfl, by rw [HAT.out]; rfl, rfl, HK3.out⟩
            · obtain rfl : n = i := by omega
              have hh := HH.out
              rw [HLN.out, List.take_length] at hh
              have hws := HWS.out
              rw [← hh] at hws
              have HW2 := Lib.hid hws
              clear hi hh hws
              cases b with
              | true =>
                go_wp2
                go_roundg (m - (j + 1))
                case measure => have := HD.out; omega
                case rel => exact ⟨j + 1, h, HD.out, rfl, rfl, by rw [HW2.out]; rfl, rfl, HK2.out⟩
              | false =>
                go_wp2
                go_roundg (m - (j + 1))
                case measure => have := HD.out; omega
                case rel => exact ⟨j + 1, false, HD.out, rfl, rfl, by rw [HW2.out]; rfl, rfl, HK2.out⟩
        · obtain rfl : m = j := by omega
          clear hd
          obtain rfl : b = false := HB.out.trans HWA.out
          go_wp2_with fail
          refine (HMT1.out _ HK.out).mono ?_
          rintro e w4 ⟨rfl, k4⟩
          have K4 := HK.out.trans k4
          go_wp2_with fail
          refine (HMT2.out _ K4).mono ?_
          rintro e w5 ⟨rfl, k5⟩
          have K5 := K4.trans k5
          go_wp2_with fail
          refine (HT1.out _ K5).mono ?_
          rintro e w6 ⟨rfl, k6⟩
          have K6 := K5.trans k6
          go_wp2_with fail
          refine (HT2.out _ K6).mono ?_
          rintro e w7 ⟨rfl, k7⟩
          have K7 := K6.trans k7
          go_wp2
          go_ret
          exact ⟨rfl, K7⟩
  · rw [decide_eq_false hE1, Bool.false_and] at hwa hmm
    have qE1 : ((E1 : Int) == 0) = false := beqF (by omega)
    obtain rfl : G = false := hwa.symm
    have HWA := Lib.hid hwa
    clear hE1 hwa hmm
    go_enter Tryd.func6, Tryd.ntmps6
    go_wp2_with fail
    refine HA.out.mono ?_
    rintro e w1 ⟨rfl, k1⟩
    go_wp2_with fail
    refine (HL1.out w1 k1).mono ?_
    rintro e w' ⟨rfl, rfl⟩
    go_wp2_with fail
    refine (HL2.out w1 k1).mono ?_
    rintro e w' ⟨rfl, rfl⟩
    go_wp2_with fail
    refine (HC1.out _ k1).mono ?_
    rintro e w2 ⟨rfl, k2⟩
    have K2 := k1.trans k2
    go_wp2
    go_loopg [9, 10] m (fun g s9 s10 wr => ∃ (j : Nat) (b : Bool), j ≤ m ∧ g = m - j ∧ s9 = .bool b ∧ b = wantN false L M j ∧ s10 = .int .i64 j ∧ Kept (fun _ => False) W wr)
    case atStart => exact ⟨0, false, Nat.zero_le _, rfl, rfl, rfl, rfl, K2⟩
    case round =>
      obtain ⟨j, b, hjm, rfl, rfl, hb, rfl, kw⟩ := hrel
      have HB := Lib.hid hb
      have HK := Lib.hid kw
      clear hb kw
      by_cases hd : j < m
      · have hdj : (j : Int) < (m : Int) := by omega
        have hj0 : (0 : Int) ≤ (j : Int) := by omega
        have HD := Lib.hid hd
        have wj : IntKind.i64.wrap ((j : Int) + 1) = ((j + 1 : Nat) : Int) := by rw [IntWalk.i64_in _ ⟨by omega, by have := HM20.out; omega⟩]; omega
        have hjL : j < M.length := by have := HMN.out; omega
        obtain ⟨gb, ob, rfl, hrec2⟩ := HS.out (by omega)
        have e2 := hrec2 j M[j] (List.getElem?_eq_getElem hjL)
        have ws := wantN_succ (B := false) (L := L) (List.getElem?_eq_getElem hjL)
        obtain ⟨y, hy⟩ : ∃ p, p = M[j] := ⟨_, rfl⟩
        rw [← hy] at e2 ws
        rw [← HB.out] at ws
        have HWS := Lib.hid ws
        obtain ⟨yk, yv⟩ := y
        have HY0 := Lib.hid e2.c0
        have HY1 := Lib.hid e2.c1
        dsimp only at HY0 HY1
        clear hd hjm hjL hrec2 e2 ws hy
        go_wp2
        go_loopg [11, 12] n (fun g s11 s12 ws => ∃ (i : Nat) (h : Bool), i ≤ n ∧ g = n - i ∧ s11 = .bool h ∧ h = (L.take i).any (fun p => eqP p ⟨yk, yv⟩) ∧ s12 = .int .i64 i ∧ Kept (fun _ => False) W ws)
        case atStart => exact ⟨0, false, Nat.zero_le _, rfl, rfl, rfl, rfl, HK.out⟩
        case round =>
          obtain ⟨i, h, hin, rfl, rfl, hh, rfl, kv⟩ := hrel
          have HH := Lib.hid hh
          have HK2 := Lib.hid kv
          have HK3 := Lib.hid kv.drew
          clear hh kv
          by_cases hi : i < n
          · have hdi : (i : Int) < (n : Int) := by omega
            have hi0 : (0 : Int) ≤ (i : Int) := by omega
            have HI := Lib.hid hi
            have wi : IntKind.i64.wrap ((i : Int) + 1) = ((i + 1 : Nat) : Int) := by rw [IntWalk.i64_in _ ⟨by omega, by have := HL20.out; omega⟩]; omega
            have hiL : i < L.length := by have := HLN.out; omega
            obtain ⟨ga, oa, rfl, hrec⟩ := HR.out (by omega)
            have e1 := (hrec i L[i] (List.getElem?_eq_getElem hiL)).keptS HK3.out (fun x => x)
            have ats := any_take_succ (p := fun p => eqP p ⟨yk, yv⟩) (List.getElem?_eq_getElem hiL)
            obtain ⟨x, hx⟩ : ∃ p, p = L[i] := ⟨_, rfl⟩
            rw [← hx] at e1 ats
            rw [← HH.out] at ats
            obtain ⟨xk, xv⟩ := x
            have hnp := eql_pair xk xv yk yv
            obtain ⟨b4, hb4⟩ : ∃ b, b = eqP ⟨xk, xv⟩ ⟨yk, yv⟩ := ⟨_, rfl⟩
            rw [show ((xk.toList == yk.toList) && (xv.toList == yv.toList)) = b4 from hb4.symm] at hnp
            rw [← hb4] at ats
            have HAT := Lib.hid ats
            have HSS : Hid ((fun w' => w'.cell? ⟨ga, oa + i * 2, none⟩ = some (.string xk) ∧ w'.cell? ⟨ga, oa + i * 2 + 1, none⟩ = some (.string xv) ∧ w'.cell? ⟨gb, ob + j * 2, none⟩ = some (.string yk) ∧ w'.cell? ⟨gb, ob + j * 2 + 1, none⟩ = some (.string yv)) wr.drew) := Lib.hid ⟨e1.c0, e1.c1, HK3.out.cell HY0.out (fun x => x), HK3.out.cell HY1.out (fun x => x)⟩
            clear hi hin hiL hrec e1 ats hx hb4
            cases h with
            | true =>
              clear hnp
              go_upto_region 13 with fail
              refine AnyBut.start (S := fun w' => w'.cell? ⟨ga, oa + i * 2, none⟩ = some (.string xk) ∧ w'.cell? ⟨ga, oa + i * 2 + 1, none⟩ = some (.string xv) ∧ w'.cell? ⟨gb, ob + j * 2, none⟩ = some (.string yk) ∧ w'.cell? ⟨gb, ob + j * 2 + 1, none⟩ = some (.string yv)) (k := 13) (by kernel_rfl) ?_
              refine AnyBut.takeS (i := 0) (v := ?v1) rfl (by kernel_rfl) (Nat.le_of_eq (by kernel_rfl)) (by kernel_rfl) (by kernel_rfl) (fun _ _ _ h => h) (HSS.out) (Or.inl ⟨by kernel_rfl, ?hy1⟩) ?r1
              case hy1 =>
                intro w hSw
                try dsimp only at hSw
                go_simp
                try with_reducible rfl
              try simp only [Act.put, List.getElem_toArray, List.getElem_cons_zero, List.setIfInBounds_toArray, List.set_cons_zero, List.set_cons_succ]
              refine AnyBut.takeS (i := 1) (v := ?v2) rfl (by kernel_rfl) (Nat.le_of_eq (by kernel_rfl)) (by kernel_rfl) (by kernel_rfl) (fun _ _ _ h => h) (HSS.out) (Or.inl ⟨by kernel_rfl, ?hy2⟩) ?r2
              case hy2 =>
                intro w hSw
                try dsimp only at hSw
                go_simp
                try with_reducible rfl
              try simp only [Act.put, List.getElem_toArray, List.getElem_cons_succ, List.getElem_cons_zero, List.setIfInBounds_toArray, List.set_cons_zero, List.set_cons_succ]
              refine AnyBut.takeS (i := 2) (v := undef) rfl (by kernel_rfl) (Nat.le_of_eq (by kernel_rfl)) (by kernel_rfl) (by kernel_rfl) (fun _ _ _ h => h) (HSS.out) (Or.inr ⟨by kernel_rfl, rfl⟩) ?r3
              try simp only [Act.put, List.getElem_toArray, List.getElem_cons_succ, List.getElem_cons_zero, List.setIfInBounds_toArray, List.set_cons_zero, List.set_cons_succ]
              refine AnyBut.takeS (i := 3) (v := undef) rfl (by kernel_rfl) (Nat.le_of_eq (by kernel_rfl)) (by kernel_rfl) (by kernel_rfl) (fun _ _ _ h => h) (HSS.out) (Or.inr ⟨by kernel_rfl, rfl⟩) ?r4
              try simp only [Act.put, List.getElem_toArray, List.getElem_cons_succ, List.getElem_cons_zero, List.setIfInBounds_toArray, List.set_cons_zero, List.set_cons_succ]
              refine AnyBut.takeS (i := 4) (v := undef) rfl (by kernel_rfl) (Nat.le_of_eq (by kernel_rfl)) (by kernel_rfl) (by kernel_rfl) (fun _ _ _ h => h) (HSS.out) (Or.inr ⟨by kernel_rfl, rfl⟩) ?r5
              try simp only [Act.put, List.getElem_toArray, List.getElem_cons_succ, List.getElem_cons_zero, List.setIfInBounds_toArray, List.set_cons_zero, List.set_cons_succ]
              refine AnyBut.takeS (i := 5) (v := undef) rfl (by kernel_rfl) (Nat.le_of_eq (by kernel_rfl)) (by kernel_rfl) (by kernel_rfl) (fun _ _ _ h => h) (HSS.out) (Or.inr ⟨by kernel_rfl, rfl⟩) ?r6
              try simp only [Act.put, List.getElem_toArray, List.getElem_cons_succ, List.getElem_cons_zero, List.setIfInBounds_toArray, List.set_cons_zero, List.set_cons_succ]
              refine AnyBut.takeS (i := 6) (v := undef) rfl (by kernel_rfl) (Nat.le_of_eq (by kernel_rfl)) (by kernel_rfl) (by kernel_rfl) (fun _ _ _ h => h) (HSS.out) (Or.inr ⟨by kernel_rfl, rfl⟩) ?r7
              try simp only [Act.put, List.getElem_toArray, List.getElem_cons_succ, List.getElem_cons_zero, List.setIfInBounds_toArray, List.set_cons_zero, List.set_cons_succ]
              refine AnyBut.takeS (i := 7) (v := undef) rfl (by kernel_rfl) (Nat.le_of_eq (by kernel_rfl)) (by kernel_rfl) (by kernel_rfl) (fun _ _ _ h => h) (HSS.out) (Or.inr ⟨by kernel_rfl, rfl⟩) ?r8
              try simp only [Act.put, List.getElem_toArray, List.getElem_cons_succ, List.getElem_cons_zero, List.setIfInBounds_toArray, List.set_cons_zero, List.set_cons_succ]
              refine AnyBut.takeS (i := 8) (v := undef) rfl (by kernel_rfl) (Nat.le_of_eq (by kernel_rfl)) (by kernel_rfl) (by kernel_rfl) (fun _ _ _ h => h) (HSS.out) (Or.inr ⟨by kernel_rfl, rfl⟩) ?r9
              try simp only [Act.put, List.getElem_toArray, List.getElem_cons_succ, List.getElem_cons_zero, List.setIfInBounds_toArray, List.set_cons_zero, List.set_cons_succ]
              refine AnyBut.takeS (i := 9) (v := undef) rfl (by kernel_rfl) (Nat.le_of_eq (by kernel_rfl)) (by kernel_rfl) (by kernel_rfl) (fun _ _ _ h => h) (HSS.out) (Or.inr ⟨by kernel_rfl, rfl⟩) ?r10
              try simp only [Act.put, List.getElem_toArray, List.getElem_cons_succ, List.getElem_cons_zero, List.setIfInBounds_toArray, List.set_cons_zero, List.set_cons_succ]
              refine AnyBut.takeS (i := 10) (v := undef) rfl (by kernel_rfl) (Nat.le_of_eq (by kernel_rfl)) (by kernel_rfl) (by kernel_rfl) (fun _ _ _ h => h) (HSS.out) (Or.inr ⟨by kernel_rfl, rfl⟩) ?r11
              try simp only [Act.put, List.getElem_toArray, List.getElem_cons_succ, List.getElem_cons_zero, List.setIfInBounds_toArray, List.set_cons_zero, List.set_cons_succ]
              refine AnyBut.takeS (i := 11) (v := ?v12) rfl (by kernel_rfl) (Nat.le_of_eq (by kernel_rfl)) (by kernel_rfl) (by kernel_rfl) (fun _ _ _ h => h) (HSS.out) (Or.inl ⟨by kernel_rfl, ?hy12⟩) ?r12
              case hy12 =>
                intro w hSw
                try dsimp only at hSw
                go_simp
                try with_reducible rfl
              try simp only [Act.put, List.getElem_toArray, List.getElem_cons_succ, List.getElem_cons_zero, List.setIfInBounds_toArray, List.set_cons_zero, List.set_cons_succ]
              refine AnyBut.takeS (i := 12) (v := ?v13) rfl (by kernel_rfl) (Nat.le_of_eq (by kernel_rfl)) (by kernel_rfl) (by kernel_rfl) (fun _ _ _ h => h) (HSS.out) (Or.inl ⟨by kernel_rfl, ?hy13⟩) ?r13
              case hy13 =>
                intro w hSw
                try dsimp only at hSw
                go_simp
                try with_reducible rfl
              try simp only [Act.put, List.getElem_toArray, List.getElem_cons_succ, List.getElem_cons_zero, List.setIfInBounds_toArray, List.set_cons_zero, List.set_cons_succ]
              refine AnyBut.done (by kernel_rfl) ?_
              go_wp2
              go_roundg (n - (i + 1))
              case measure => have := HI.out; omega
              case rel => exact ⟨i + 1, true, HI.out, rfl, rfl, HAT.out.symm, rfl, HK3.out⟩
            | false =>
              go_upto_region 13 with fail
              refine AnyBut.start (S := fun w' => w'.cell? ⟨ga, oa + i * 2, none⟩ = some (.string xk) ∧ w'.cell? ⟨ga, oa + i * 2 + 1, none⟩ = some (.string xv) ∧ w'.cell? ⟨gb, ob + j * 2, none⟩ = some (.string yk) ∧ w'.cell? ⟨gb, ob + j * 2 + 1, none⟩ = some (.string yv)) (k := 13) (by kernel_rfl) ?_
              refine AnyBut.takeS (i := 0) (v := ?v14) rfl (by kernel_rfl) (Nat.le_of_eq (by kernel_rfl)) (by kernel_rfl) (by kernel_rfl) (fun _ _ _ h => h) (HSS.out) (Or.inl ⟨by kernel_rfl, ?hy14⟩) ?r14
              case hy14 =>
                intro w hSw
                try dsimp only at hSw
                go_simp
                try with_reducible rfl
              try simp only [Act.put, List.getElem_toArray, List.getElem_cons_zero, List.setIfInBounds_toArray, List.set_cons_zero, List.set_cons_succ]
              refine AnyBut.takeS (i := 1) (v := ?v15) rfl (by kernel_rfl) (Nat.le_of_eq (by kernel_rfl)) (by kernel_rfl) (by kernel_rfl) (fun _ _ _ h => h) (HSS.out) (Or.inl ⟨by kernel_rfl, ?hy15⟩) ?r15
              case hy15 =>
                intro w hSw
                try dsimp only at hSw
                go_simp
                try with_reducible rfl
              try simp only [Act.put, List.getElem_toArray, List.getElem_cons_succ, List.getElem_cons_zero, List.setIfInBounds_toArray, List.set_cons_zero, List.set_cons_succ]
              refine AnyBut.takeS (i := 2) (v := ?v16) rfl (by kernel_rfl) (Nat.le_of_eq (by kernel_rfl)) (by kernel_rfl) (by kernel_rfl) (fun _ _ _ h => h) (HSS.out) (Or.inl ⟨by kernel_rfl, ?hy16⟩) ?r16
              case hy16 =>
                intro w hSw
                try dsimp only at hSw
                go_simp
                try with_reducible rfl
              try simp only [Act.put, List.getElem_toArray, List.getElem_cons_succ, List.getElem_cons_zero, List.setIfInBounds_toArray, List.set_cons_zero, List.set_cons_succ]
              refine AnyBut.takeS (i := 3) (v := ?v17) rfl (by kernel_rfl) (Nat.le_of_eq (by kernel_rfl)) (by kernel_rfl) (by kernel_rfl) (fun _ _ _ h => h) (HSS.out) (Or.inl ⟨by kernel_rfl, ?hy17⟩) ?r17
              case hy17 =>
                intro w hSw
                try dsimp only at hSw
                go_simp
                try with_reducible rfl
              try simp only [Act.put, List.getElem_toArray, List.getElem_cons_succ, List.getElem_cons_zero, List.setIfInBounds_toArray, List.set_cons_zero, List.set_cons_succ]
              refine AnyBut.takeS (i := 4) (v := ?v18) rfl (by kernel_rfl) (Nat.le_of_eq (by kernel_rfl)) (by kernel_rfl) (by kernel_rfl) (fun _ _ _ h => h) (HSS.out) (Or.inl ⟨by kernel_rfl, ?hy18⟩) ?r18
              case hy18 =>
                intro w hSw
                try dsimp only at hSw
                go_simp
                try with_reducible rfl
              try simp only [Act.put, List.getElem_toArray, List.getElem_cons_succ, List.getElem_cons_zero, List.setIfInBounds_toArray, List.set_cons_zero, List.set_cons_succ]
              refine AnyBut.takeS (i := 5) (v := ?v19) rfl (by kernel_rfl) (Nat.le_of_eq (by kernel_rfl)) (by kernel_rfl) (by kernel_rfl) (fun _ _ _ h => h) (HSS.out) (Or.inl ⟨by kernel_rfl, ?hy19⟩) ?r19
              case hy19 =>
                intro w hSw
                try dsimp only at hSw
                go_simp
                try with_reducible rfl
              try simp only [Act.put, List.getElem_toArray, List.getElem_cons_succ, List.getElem_cons_zero, List.setIfInBounds_toArray, List.set_cons_zero, List.set_cons_succ]
              refine AnyBut.takeS (i := 6) (v := ?v20) rfl (by kernel_rfl) (Nat.le_of_eq (by kernel_rfl)) (by kernel_rfl) (by kernel_rfl) (fun _ _ _ h => h) (HSS.out) (Or.inl ⟨by kernel_rfl, ?hy20⟩) ?r20
              case hy20 =>
                intro w hSw
                try dsimp only at hSw
                go_simp
                try with_reducible rfl
              try simp only [Act.put, List.getElem_toArray, List.getElem_cons_succ, List.getElem_cons_zero, List.setIfInBounds_toArray, List.set_cons_zero, List.set_cons_succ]
              refine AnyBut.takeS (i := 7) (v := ?v21) rfl (by kernel_rfl) (Nat.le_of_eq (by kernel_rfl)) (by kernel_rfl) (by kernel_rfl) (fun _ _ _ h => h) (HSS.out) (Or.inl ⟨by kernel_rfl, ?hy21⟩) ?r21
              case hy21 =>
                intro w hSw
                try dsimp only at hSw
                go_simp
                try with_reducible rfl
              try simp only [Act.put, List.getElem_toArray, List.getElem_cons_succ, List.getElem_cons_zero, List.setIfInBounds_toArray, List.set_cons_zero, List.set_cons_succ]
              refine AnyBut.takeS (i := 8) (v := ?v22) rfl (by kernel_rfl) (Nat.le_of_eq (by kernel_rfl)) (by kernel_rfl) (by kernel_rfl) (fun _ _ _ h => h) (HSS.out) (Or.inl ⟨by kernel_rfl, ?hy22⟩) ?r22
              case hy22 =>
                intro w hSw
                try dsimp only at hSw
                go_simp
                try with_reducible rfl
              try simp only [Act.put, List.getElem_toArray, List.getElem_cons_succ, List.getElem_cons_zero, List.setIfInBounds_toArray, List.set_cons_zero, List.set_cons_succ]
              refine AnyBut.takeS (i := 9) (v := ?v23) rfl (by kernel_rfl) (Nat.le_of_eq (by kernel_rfl)) (by kernel_rfl) (by kernel_rfl) (fun _ _ _ h => h) (HSS.out) (Or.inl ⟨by kernel_rfl, ?hy23⟩) ?r23
              case hy23 =>
                intro w hSw
                try dsimp only at hSw
                go_simp
                try with_reducible rfl
              try simp only [Act.put, List.getElem_toArray, List.getElem_cons_succ, List.getElem_cons_zero, List.setIfInBounds_toArray, List.set_cons_zero, List.set_cons_succ]
              refine AnyBut.takeS (i := 10) (v := ?v24) rfl (by kernel_rfl) (Nat.le_of_eq (by kernel_rfl)) (by kernel_rfl) (by kernel_rfl) (fun _ _ _ h => h) (HSS.out) (Or.inl ⟨by kernel_rfl, ?hy24⟩) ?r24
              case hy24 =>
                intro w hSw
                try dsimp only at hSw
                go_simp
                try with_reducible rfl
              try simp only [Act.put, List.getElem_toArray, List.getElem_cons_succ, List.getElem_cons_zero, List.setIfInBounds_toArray, List.set_cons_zero, List.set_cons_succ]
              refine AnyBut.takeS (i := 11) (v := ?v25) rfl (by kernel_rfl) (Nat.le_of_eq (by kernel_rfl)) (by kernel_rfl) (by kernel_rfl) (fun _ _ _ h => h) (HSS.out) (Or.inl ⟨by kernel_rfl, ?hy25⟩) ?r25
              case hy25 =>
                intro w hSw
                try dsimp only at hSw
                go_simp
                try with_reducible rfl
              try simp only [Act.put, List.getElem_toArray, List.getElem_cons_succ, List.getElem_cons_zero, List.setIfInBounds_toArray, List.set_cons_zero, List.set_cons_succ]
              refine AnyBut.takeS (i := 12) (v := ?v26) rfl (by kernel_rfl) (Nat.le_of_eq (by kernel_rfl)) (by kernel_rfl) (by kernel_rfl) (fun _ _ _ h => h) (HSS.out) (Or.inl ⟨by kernel_rfl, ?hy26⟩) ?r26
              case hy26 =>
                intro w hSw
                try dsimp only at hSw
                go_simp
                try with_reducible rfl
              try simp only [Act.put, List.getElem_toArray, List.getElem_cons_succ, List.getElem_cons_zero, List.setIfInBounds_toArray, List.set_cons_zero, List.set_cons_succ]
              refine AnyBut.done (by kernel_rfl) ?_
              go_wp2
              go_roundg (n - (i + 1))
              case measure => have := HI.out; omega
              case rel => exact ⟨i + 1, b4, HI.out, rfl, rfl, by rw [HAT.out]; rfl, rfl, HK3.out⟩
          · obtain rfl : n = i := by omega
            have hh := HH.out
            rw [HLN.out, List.take_length] at hh
            have hws := HWS.out
            rw [← hh] at hws
            have HW2 := Lib.hid hws
            clear hi hh hws
            cases b with
            | true =>
              go_wp2
              go_roundg (m - (j + 1))
              case measure => have := HD.out; omega
              case rel => exact ⟨j + 1, h, HD.out, rfl, rfl, by rw [HW2.out]; rfl, rfl, HK2.out⟩
            | false =>
              go_wp2
              go_roundg (m - (j + 1))
              case measure => have := HD.out; omega
              case rel => exact ⟨j + 1, false, HD.out, rfl, rfl, by rw [HW2.out]; rfl, rfl, HK2.out⟩
      · obtain rfl : m = j := by omega
        clear hd
        obtain rfl : b = false := HB.out.trans HWA.out
        go_wp2_with fail
        refine (HMT1.out _ HK.out).mono ?_
        rintro e w4 ⟨rfl, k4⟩
        have K4 := HK.out.trans k4
        go_wp2_with fail
        refine (HMT2.out _ K4).mono ?_
        rintro e w5 ⟨rfl, k5⟩
        have K5 := K4.trans k5
        go_wp2_with fail
        refine (HT1.out _ K5).mono ?_
        rintro e w6 ⟨rfl, k6⟩
        have K6 := K5.trans k6
        go_wp2_with fail
        refine (HT2.out _ K6).mono ?_
        rintro e w7 ⟨rfl, k7⟩
        have K7 := K6.trans k7
        go_wp2
        go_ret
        exact ⟨rfl, K7⟩
theorem labelMatches_walk (name : ByteArray) (ao : Option Addr) (c : Nat) (L : List Pr) (name2 : ByteArray) (bo : Option Addr) (d : Nat) (M : List Pr) (W : World) (hn : name.size ≤ maxLen) (h : PairsIn W ao c L) (hl : L.length ≤ 9223372036854775807) (hn2 : name2.size ≤ maxLen) (h2 : PairsIn W bo d M) (hm : M.length ≤ 9223372036854775807) (_ : NoTab W) :
    Calls Tryd.prog 6 #[.string name, .slice ao L.length c, .string name2, .slice bo M.length d] W fun e w' => e = .returned (.bool true) ∧ Kept (fun _ => False) W w' :=
  matches11_walk0 name name2 ao bo c d L M W (by unfold maxLen at hn; omega) (by unfold maxLen at hn2; omega) h.at_ h2.at_ h.cap h2.cap hl hm
end Go.Proofs.YtkgjkcfjkjkflaaDoor

