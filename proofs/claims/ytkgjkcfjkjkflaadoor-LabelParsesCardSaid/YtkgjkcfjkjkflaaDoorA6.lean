/- Layer 11: the document's Check (written by tools/gen_XA6.py). -/
import Derived.Test.YtkgjkcfjkjkflaaDoorA5
namespace Go.Proofs.YtkgjkcfjkjkflaaDoor
open Go.RowKit
attribute [local go_sem ↓] Go.wp_at_zero Go.wp_at_succ

set_option maxHeartbeats 4000000 in
theorem refCheck11_any (name : ByteArray) (ao : Option Addr) (c : Nat) (L : List Pr) (w : World) (hr : PsAt w ao L) (hl : L.length ≤ 9223372036854775807) (hz : name.size ≤ 9223372036854775807) (hs : Sh 9223372036854775807 L) :
    Calls Tryd.prog 17 #[.string name, .slice ao L.length c] w fun e w' => e = .returned (.int .i64 ((checkE name L : Nat) : Int)) ∧ Kept (fun _ => False) w w' := by
  have HN := Lib.hid fun w => refName_any name w hz
  have HR := Lib.hid hr
  have HS := Lib.hid hs
  obtain ⟨n, hn⟩ : ∃ n, n = L.length := ⟨_, rfl⟩
  have HNN := Lib.hid hn
  have HE : Hid (checkE name L = if nameB name = true then (if 4 < n then 4 else faults L n) else 3) := Lib.hid (by unfold checkE; rw [hn])
  obtain ⟨b, hb⟩ : ∃ b, b = nameB name := ⟨_, rfl⟩
  rw [← hb] at HN HE
  rw [← hn] at hl ⊢
  clear hr hs hn hb hz
  cases b with
  | false =>
    have HE2 := Lib.hid (HE.out.trans (if_neg (by decide)))
    go_enter Tryd.func17, Tryd.ntmps17
    go_wp2_with fail
    refine (HN.out w).mono ?_
    rintro e w1 ⟨rfl, rfl⟩
    go_wp2
    go_ret
    exact ⟨by rw [HE2.out]; rfl, Kept.refl _ _⟩
  | true =>
    have HE2 := Lib.hid (HE.out.trans (if_pos rfl))
    by_cases h4 : 4 < n
    · have HE3 := Lib.hid (HE2.out.trans (if_pos h4))
      have q : (4 : Int) < (n : Int) := by omega
      have q2 : decide (4 < n) = true := decide_eq_true h4
      go_enter Tryd.func17, Tryd.ntmps17
      go_wp2_with fail
      refine (HN.out w).mono ?_
      rintro e w1 ⟨rfl, rfl⟩
      go_wp2
      go_ret
      exact ⟨by rw [HE3.out]; rfl, Kept.refl _ _⟩
    · have HE3 := Lib.hid (HE2.out.trans (if_neg h4))
      have q : ¬ (4 : Int) < (n : Int) := by omega
      have q2 : decide (4 < n) = false := decide_eq_false h4
      have H4 := Lib.hid h4
      clear hl h4
      go_enter Tryd.func17, Tryd.ntmps17
      go_wp2_with fail
      refine (HN.out w).mono ?_
      rintro e w1 ⟨rfl, rfl⟩
      go_wp2
      go_loopg [5] n (fun g s5 wr => ∃ i : Nat, i ≤ n ∧ g = n - i ∧ s5 = .int .i64 i ∧ faults L i = 0 ∧ Kept (fun _ => False) w wr)
      case atStart => exact ⟨0, Nat.zero_le _, rfl, rfl, rfl, Kept.refl _ _⟩
      case round =>
        obtain ⟨i, hin, rfl, rfl, ha, kw⟩ := hrel
        have HA := Lib.hid ha
        have HK := Lib.hid kw
        clear ha kw
        by_cases hd : i < n
        · have hdi : (i : Int) < (n : Int) := by omega
          have hi0 : (0 : Int) ≤ (i : Int) := by omega
          have HD := Lib.hid hd
          have wi : IntKind.i64.wrap ((i : Int) + 1) = ((i + 1 : Nat) : Int) := by rw [IntWalk.i64_in _ ⟨by omega, by have := H4.out; omega⟩]; omega
          have hiL : i < L.length := by have := HNN.out; omega
          obtain ⟨gb, ob, rfl, hrec⟩ := HR.out (by omega)
          have hel := (hrec i L[i] (List.getElem?_eq_getElem hiL)).keptS HK.out (fun x => x)
          have hgd := getD_pr (List.getElem?_eq_getElem hiL) ⟨ByteArray.empty, ByteArray.empty⟩
          have hmem := List.getElem_mem hiL
          obtain ⟨P, hP⟩ : ∃ p, p = L[i] := ⟨_, rfl⟩
          rw [← hP] at hel hmem
          have hsz := HS.out P hmem
          have HNK := Lib.hid fun w => refName_any P.k w hsz.1
          have HVV := Lib.hid fun w => refValue_any P.v w hsz.2
          obtain ⟨NB, hNB⟩ : ∃ b, b = nameB P.k := ⟨_, rfl⟩
          obtain ⟨VB, hVB⟩ : ∃ b, b = valueB P.v := ⟨_, rfl⟩
          rw [← hNB] at HNK
          rw [← hVB] at HVV
          obtain ⟨FA, hFA⟩ : ∃ k, k = faultAt L i := ⟨_, rfl⟩
          have HFA := Lib.hid (show faultAt L i = FA from hFA.symm)
          have hfb : FA = if NB = true ∧ VB = true then (if hasB (L.take i) P.k = true then 8 else 0) else 3 := by
            rw [hFA]
            unfold faultAt
            rw [hgd, ← hP, ← hNB, ← hVB]
          have HFB := Lib.hid hfb
          have HX00 := Lib.hid (hrec i P (by rw [hP]; exact List.getElem?_eq_getElem hiL)).c0
          obtain ⟨kk, kv⟩ := P
          obtain ⟨x0, x1⟩ := hel
          dsimp only at x0 x1 HNK HVV HFB
          have HX0 := Lib.hid (show w.cell? ⟨gb, ob + i * 2, none⟩ = some (.string kk) from HX00.out)
          clear hd hin hP hiL hgd hmem hsz hNB hVB hFA hfb
          cases NB with
          | false =>
            have HF3 := Lib.hid (HFA.out.trans (HFB.out.trans (if_neg (fun e => by cases e.1))))
            go_wp2_with fail
            refine (HNK.out _).mono ?_
            rintro e w' ⟨rfl, rfl⟩
            go_wp2
            go_ret
            exact ⟨by rw [HE3.out, faults_at HA.out (by rw [HF3.out]; decide) HD.out, HF3.out]; rfl, HK.out⟩
          | true =>
            cases VB with
            | false =>
              have HF3 := Lib.hid (HFA.out.trans (HFB.out.trans (if_neg (fun e => by cases e.2))))
              go_wp2_with fail
              refine (HNK.out _).mono ?_
              rintro e w' ⟨rfl, rfl⟩
              go_wp2_with fail
              refine (HVV.out _).mono ?_
              rintro e w' ⟨rfl, rfl⟩
              go_wp2
              go_ret
              exact ⟨by rw [HE3.out, faults_at HA.out (by rw [HF3.out]; decide) HD.out, HF3.out]; rfl, HK.out⟩
            | true =>
              have HF3 := Lib.hid (HFA.out.trans (HFB.out.trans (if_pos ⟨rfl, rfl⟩)))
              have HREC := Lib.hid hrec
              clear hrec
              go_wp2_with fail
              refine (HNK.out _).mono ?_
              rintro e w' ⟨rfl, rfl⟩
              go_wp2_with fail
              refine (HVV.out _).mono ?_
              rintro e w' ⟨rfl, rfl⟩
              go_wp2
              go_loopg [6] i (fun g s6 ws => ∃ k : Nat, k ≤ i ∧ g = i - k ∧ s6 = .int .i64 k ∧ hasB (L.take k) kk = false ∧ Kept (fun _ => False) w ws)
              case atStart => exact ⟨0, Nat.zero_le _, rfl, rfl, rfl, HK.out⟩
              case round =>
                obtain ⟨k, hki, rfl, rfl, hb, kv2⟩ := hrel
                have HB := Lib.hid hb
                have HK2 := Lib.hid kv2
                clear hb kv2
                by_cases hk : k < i
                · have hkd : (k : Int) < (i : Int) := by omega
                  have hk0 : (0 : Int) ≤ (k : Int) := by omega
                  have hkn : (k : Int) < (n : Int) := by omega
                  have HKI := Lib.hid hk
                  have wk : IntKind.i64.wrap ((k : Int) + 1) = ((k + 1 : Nat) : Int) := by rw [IntWalk.i64_in _ ⟨by omega, by have := H4.out; have := HD.out; omega⟩]; omega
                  have hkL : k < L.length := by have := HNN.out; have := HD.out; omega
                  have hts := any_take_succ (p := fun p => p.k.toList == kk.toList) (List.getElem?_eq_getElem hkL)
                  have hel2 := HREC.out k L[k] (List.getElem?_eq_getElem hkL)
                  have hmem2 := List.getElem_mem hkL
                  have htake : L[k] ∈ L.take i := List.mem_take_iff_getElem.2 ⟨k, by omega, rfl⟩
                  obtain ⟨Q, hQ⟩ : ∃ q, q = L[k] := ⟨_, rfl⟩
                  rw [← hQ] at hts hel2 htake
                  obtain ⟨qk, qv⟩ := Q
                  obtain ⟨z0, z1⟩ := hel2
                  dsimp only at z0 z1 hts
                  obtain ⟨b, hb⟩ : ∃ b, b = (qk.toList == kk.toList) := ⟨_, rfl⟩
                  rw [← hb] at hts
                  have HTS := Lib.hid hts
                  have HTK := Lib.hid htake
                  have HBB := Lib.hid hb
                  replace hb := hb.symm
                  clear hts htake hkL hmem2 hQ hk hki z1
                  have HK3 := Lib.hid HK2.out.drew
                  have HSS : Hid ((fun w' => w'.cell? ⟨gb, ob + k * 2, none⟩ = some (.string qk) ∧ w'.cell? ⟨gb, ob + i * 2, none⟩ = some (.string kk)) wr.drew) := Lib.hid ⟨HK3.out.cell z0 (fun x => x), HK3.out.cell HX0.out (fun x => x)⟩
                  clear z0
                  go_upto_region 13 with fail
                  refine AnyBut.start (S := fun w' => w'.cell? ⟨gb, ob + k * 2, none⟩ = some (.string qk) ∧ w'.cell? ⟨gb, ob + i * 2, none⟩ = some (.string kk)) (k := 11) (by kernel_rfl) ?_
                  refine AnyBut.takeS (i := 0) (v := ?v1) rfl (by kernel_rfl) (Nat.le_of_eq (by kernel_rfl)) (by kernel_rfl) (by kernel_rfl) (fun _ _ _ h => h) (HSS.out) (Or.inl ⟨by kernel_rfl, ?hy1⟩) ?r1
                  case hy1 =>
                    intro w hSw
                    try dsimp only at hSw
                    go_simp
                    try with_reducible rfl
                  try simp only [Act.put, List.getElem_toArray, List.getElem_cons_zero, List.setIfInBounds_toArray, List.set_cons_zero, List.set_cons_succ]
                  refine AnyBut.takeS (i := 1) (v := ?v2) rfl (by kernel_rfl) (Nat.le_of_eq (by kernel_rfl)) (by kernel_rfl) (by kernel_rfl) (fun _ _ _ h => h) (HSS.out) (Or.inl ⟨by kernel_rfl, ?hy2⟩) ?r2
                  case hy2 =>
                    intro w hSw
                    try dsimp only at hSw
                    go_simp
                    try with_reducible rfl
                  try simp only [Act.put, List.getElem_toArray, List.getElem_cons_succ, List.getElem_cons_zero, List.setIfInBounds_toArray, List.set_cons_zero, List.set_cons_succ]
                  refine AnyBut.takeS (i := 2) (v := ?v3) rfl (by kernel_rfl) (Nat.le_of_eq (by kernel_rfl)) (by kernel_rfl) (by kernel_rfl) (fun _ _ _ h => h) (HSS.out) (Or.inl ⟨by kernel_rfl, ?hy3⟩) ?r3
                  case hy3 =>
                    intro w hSw
                    try dsimp only at hSw
                    go_simp
                    try with_reducible rfl
                  try simp only [Act.put, List.getElem_toArray, List.getElem_cons_succ, List.getElem_cons_zero, List.setIfInBounds_toArray, List.set_cons_zero, List.set_cons_succ]
                  refine AnyBut.takeS (i := 3) (v := ?v4) rfl (by kernel_rfl) (Nat.le_of_eq (by kernel_rfl)) (by kernel_rfl) (by kernel_rfl) (fun _ _ _ h => h) (HSS.out) (Or.inl ⟨by kernel_rfl, ?hy4⟩) ?r4
                  case hy4 =>
                    intro w hSw
                    try dsimp only at hSw
                    go_simp
                    try with_reducible rfl
                  try simp only [Act.put, List.getElem_toArray, List.getElem_cons_succ, List.getElem_cons_zero, List.setIfInBounds_toArray, List.set_cons_zero, List.set_cons_succ]
                  refine AnyBut.takeS (i := 4) (v := ?v5) rfl (by kernel_rfl) (Nat.le_of_eq (by kernel_rfl)) (by kernel_rfl) (by kernel_rfl) (fun _ _ _ h => h) (HSS.out) (Or.inl ⟨by kernel_rfl, ?hy5⟩) ?r5
                  case hy5 =>
                    intro w hSw
                    try dsimp only at hSw
                    go_simp
                    try with_reducible rfl
                  try simp only [Act.put, List.getElem_toArray, List.getElem_cons_succ, List.getElem_cons_zero, List.setIfInBounds_toArray, List.set_cons_zero, List.set_cons_succ]
                  refine AnyBut.takeS (i := 5) (v := ?v6) rfl (by kernel_rfl) (Nat.le_of_eq (by kernel_rfl)) (by kernel_rfl) (by kernel_rfl) (fun _ _ _ h => h) (HSS.out) (Or.inl ⟨by kernel_rfl, ?hy6⟩) ?r6
                  case hy6 =>
                    intro w hSw
                    try dsimp only at hSw
                    go_simp
                    try with_reducible rfl
                  try simp only [Act.put, List.getElem_toArray, List.getElem_cons_succ, List.getElem_cons_zero, List.setIfInBounds_toArray, List.set_cons_zero, List.set_cons_succ]
                  refine AnyBut.takeS (i := 6) (v := ?v7) rfl (by kernel_rfl) (Nat.le_of_eq (by kernel_rfl)) (by kernel_rfl) (by kernel_rfl) (fun _ _ _ h => h) (HSS.out) (Or.inl ⟨by kernel_rfl, ?hy7⟩) ?r7
                  case hy7 =>
                    intro w hSw
                    try dsimp only at hSw
                    go_simp
                    try with_reducible rfl
                  try simp only [Act.put, List.getElem_toArray, List.getElem_cons_succ, List.getElem_cons_zero, List.setIfInBounds_toArray, List.set_cons_zero, List.set_cons_succ]
                  refine AnyBut.takeS (i := 7) (v := ?v8) rfl (by kernel_rfl) (Nat.le_of_eq (by kernel_rfl)) (by kernel_rfl) (by kernel_rfl) (fun _ _ _ h => h) (HSS.out) (Or.inl ⟨by kernel_rfl, ?hy8⟩) ?r8
                  case hy8 =>
                    intro w hSw
                    try dsimp only at hSw
                    go_simp
                    try with_reducible rfl
                  try simp only [Act.put, List.getElem_toArray, List.getElem_cons_succ, List.getElem_cons_zero, List.setIfInBounds_toArray, List.set_cons_zero, List.set_cons_succ]
                  refine AnyBut.takeS (i := 8) (v := ?v9) rfl (by kernel_rfl) (Nat.le_of_eq (by kernel_rfl)) (by kernel_rfl) (by kernel_rfl) (fun _ _ _ h => h) (HSS.out) (Or.inl ⟨by kernel_rfl, ?hy9⟩) ?r9
                  case hy9 =>
                    intro w hSw
                    try dsimp only at hSw
                    go_simp
                    try with_reducible rfl
                  try simp only [Act.put, List.getElem_toArray, List.getElem_cons_succ, List.getElem_cons_zero, List.setIfInBounds_toArray, List.set_cons_zero, List.set_cons_succ]
                  refine AnyBut.takeS (i := 9) (v := ?v10) rfl (by kernel_rfl) (Nat.le_of_eq (by kernel_rfl)) (by kernel_rfl) (by kernel_rfl) (fun _ _ _ h => h) (HSS.out) (Or.inl ⟨by kernel_rfl, ?hy10⟩) ?r10
                  case hy10 =>
                    intro w hSw
                    try dsimp only at hSw
                    go_simp
                    try with_reducible rfl
                  try simp only [Act.put, List.getElem_toArray, List.getElem_cons_succ, List.getElem_cons_zero, List.setIfInBounds_toArray, List.set_cons_zero, List.set_cons_succ]
                  refine AnyBut.takeS (i := 10) (v := ?v11) rfl (by kernel_rfl) (Nat.le_of_eq (by kernel_rfl)) (by kernel_rfl) (by kernel_rfl) (fun _ _ _ h => h) (HSS.out) (Or.inl ⟨by kernel_rfl, ?hy11⟩) ?r11
                  case hy11 =>
                    intro w hSw
                    try dsimp only at hSw
                    go_simp
                    try with_reducible rfl
                  try simp only [Act.put, List.getElem_toArray, List.getElem_cons_succ, List.getElem_cons_zero, List.setIfInBounds_toArray, List.set_cons_zero, List.set_cons_succ]
                  refine AnyBut.done (by kernel_rfl) ?_
                  cases b with
                  | false =>
                    go_wp2
                    go_roundg (i - (k + 1))
                    case measure => have := HKI.out; omega
                    case rel => exact ⟨k + 1, HKI.out, rfl, rfl, by show (L.take (k + 1)).any _ = false; rw [HTS.out, Bool.or_false]; exact HB.out, HK3.out⟩
                  | true =>
                    have HF4 := Lib.hid (HF3.out.trans (if_pos (show hasB (L.take i) kk = true from List.any_eq_true.2 ⟨_, HTK.out, HBB.out.symm⟩)))
                    go_wp2
                    go_ret
                    exact ⟨by rw [HE3.out, faults_at HA.out (by rw [HF4.out]; decide) HD.out, HF4.out]; rfl, HK3.out⟩
                · obtain rfl : i = k := by omega
                  have HF4 := Lib.hid (HF3.out.trans (if_neg (by rw [HB.out]; decide)))
                  clear hk
                  go_wp2
                  go_roundg (n - (i + 1))
                  case measure => have := HD.out; omega
                  case rel => exact ⟨i + 1, HD.out, rfl, rfl, by rw [faults_succ HA.out]; exact HF4.out, HK2.out⟩
        · obtain rfl : n = i := by omega
          clear hd
          have HF := Lib.hid (show checkE name L = 0 from HE3.out.trans HA.out)
          go_wp2
          go_ret
          exact ⟨by rw [HF.out]; rfl, HK.out⟩
end Go.Proofs.YtkgjkcfjkjkflaaDoor

