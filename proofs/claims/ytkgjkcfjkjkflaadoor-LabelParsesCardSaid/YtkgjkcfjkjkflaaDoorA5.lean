/- Layer 11: ContainsFunc, has, Check (written by tools/gen_XA5.py). -/
import Derived.Test.YtkgjkcfjkjkflaaDoorA4
namespace Go.Proofs.YtkgjkcfjkjkflaaDoor
open Go.RowKit
attribute [local go_sem ↓] Go.wp_at_zero Go.wp_at_succ

theorem run_cutHn {P : Program} {t E : TypeId} {i : TypeInfo} (ht : P.underlying t = some (.slice E)) (hi : P.info? E = some i) (a : Option Addr) (len cap h : Nat) (hhi : h ≤ cap) (w : World) :
    (Instr.slice t (.slice a len cap) none (some (.int .i64 (h : Int))) none).run P w = .ok (.slice a h cap) w := by
  have he : P.elem t = E := by simp [Program.elem, ht]
  rw [run_slice_h w t a len cap (by rw [he]; exact ht) .i64 h (by omega) (by omega), he]
  have e : (a.map fun x => x.add 0) = a := by cases a <;> simp [add_zero']
  simp [sizeOf, typeInfo, hi, sliced, e]
theorem run_cutHnAt {P : Program} {t E : TypeId} {i : TypeInfo} (ht : P.underlying t = some (.slice E)) (hi : P.info? E = some i) (a : Option Addr) (len cap h : Nat) (hhi : h ≤ cap) (w : World) :
    (Instr.sliceAt t (.slice a len cap) none (some (.int .i64 (h : Int))) none).run P w = .ok (.slice a h cap) w := by
  have he : P.elem t = E := by simp [Program.elem, ht]
  rw [run_sliceAt_slice w t _ _ _ _ (by rw [he]; exact ht)]
  exact run_cutHn ht hi a len cap h hhi w
theorem Tryd.infoPair : (Tryd.prog.info? 40).map (fun i => (i.zero, i.size, i.bytes)) = some (some (.agg #[.string ByteArray.empty, .string ByteArray.empty]), 2, 32) := by kernel_rfl

theorem containsFunc_any (ao : Option Addr) (c : Nat) (L : List Pr) (f : FuncId) (caps : Array Value) (p : Pr → Bool) (w : World) (hr : PsAt w ao L) (hl : L.length ≤ 1000000) (T : Teller w f caps p) :
    Calls Tryd.prog 33 #[.slice ao L.length c, .func (.func f) #[] caps] w fun e w' => e = .returned (.bool (L.any p)) ∧ Kept (fun _ => False) w w' := by
  have HI := Lib.hid (indexFunc_any ao c L f caps p w hr hl T)
  obtain ⟨n, hn⟩ : ∃ n, n = L.length := ⟨_, rfl⟩
  obtain ⟨b, hb⟩ : ∃ b, b = L.any p := ⟨_, rfl⟩
  rw [← hb] at HI ⊢
  rw [← hn] at HI ⊢
  clear hr hl T hn hb
  go_enter Tryd.func33, Tryd.ntmps33
  go_wp2_with fail
  refine HI.out.mono ?_
  rintro e w1 ⟨⟨z, rfl, hz⟩, k1⟩
  clear HI
  cases b with
  | true =>
    have hz2 : (0 : Int) ≤ z := of_decide_eq_true hz
    go_wp2
    go_ret
    exact ⟨rfl, k1⟩
  | false =>
    have hz2 : ¬ (0 : Int) ≤ z := of_decide_eq_false hz
    go_wp2
    go_ret
    exact ⟨rfl, k1⟩
theorem enter_has (w : World) (args : Array Value) : (callFunc 35 args).run Tryd.prog w = .ok (.enter 35 args) w := by
  have hb : (Tryd.f35).body.isSome = true := by kernel_rfl
  obtain ⟨c, hc⟩ := Option.isSome_iff_exists.1 hb
  have h1 : (Tryd.f35).name ≠ "runtime.NumGoroutine" := by
    have : ((Tryd.f35).name == "runtime.NumGoroutine") = false := by kernel_rfl
    simpa using this
  simp [callFunc, Tryd.func35, h1, hc]
theorem has_any (ao : Option Addr) (c : Nat) (L : List Pr) (key : ByteArray) (w : World) (hr : PsAt w ao L) (hl : L.length ≤ 1000000) :
    Calls Tryd.prog 21 #[.slice ao L.length c, .string key] w fun e w' => e = .returned (.bool (hasB L key)) ∧ Kept (fun _ => False) w w' := by
  obtain ⟨w1, hw1⟩ : ∃ w1, w1 = w.alloc (.cells #[.string key] 9) := ⟨_, rfl⟩
  have k1 : Kept (fun _ => False) w w1 := by rw [hw1]; exact (Kept.refl _ _).alloc _
  have hc : w1.cell? ⟨w.heap.size, 0, none⟩ = some (.string key) := by rw [hw1]; exact (cell_of_row _ _ 0 _ _ _ (heap_alloc_new w _)).trans rfl
  obtain ⟨kb, hkb⟩ : ∃ k, k = w.heap.size := ⟨_, rfl⟩
  rw [← hkb] at hc
  have T : Teller w1 35 #[.pointer (some ⟨kb, 0, none⟩)] (fun p => p.k.toList == key.toList) := ⟨fun w' x k => hasFn_any kb key x w' (k.cell hc (fun x => x)), enter_has⟩
  have HI := Lib.hid (containsFunc_any ao c L _ _ _ w1 (hr.kept k1) hl T)
  have HW := Lib.hid (And.intro hw1 hkb)
  have HK := Lib.hid k1
  obtain ⟨n, hn⟩ : ∃ n, n = L.length := ⟨_, rfl⟩
  rw [← hn] at HI ⊢
  clear hr hl T hn hw1 k1 hc hkb
  go_enter Tryd.func21, Tryd.ntmps21
  go_upto_region 1 with fail
  rw [← HW.out.1, ← HW.out.2]
  go_wp2_with fail
  refine HI.out.mono ?_
  rintro e w2 ⟨rfl, k2⟩
  go_wp2
  go_ret
  exact ⟨rfl, HK.out.trans k2⟩

/-- What is wrong with the i-th attribute. -/
def faultAt (L : List Pr) (i : Nat) : Nat :=
  if nameB (L.getD i ⟨ByteArray.empty, ByteArray.empty⟩).k = true ∧ valueB (L.getD i ⟨ByteArray.empty, ByteArray.empty⟩).v = true then (if hasB (L.take i) (L.getD i ⟨ByteArray.empty, ByteArray.empty⟩).k = true then 8 else 0) else 3
/-- The first fault of so many. -/
def faults (L : List Pr) : Nat → Nat
  | 0 => 0
  | k + 1 => if faults L k ≠ 0 then faults L k else faultAt L k
/-- What is wrong with a label. -/
def checkE (name : ByteArray) (L : List Pr) : Nat := if nameB name = true then (if 4 < L.length then 4 else faults L L.length) else 3
theorem faults_succ {L : List Pr} {i : Nat} (h : faults L i = 0) : faults L (i + 1) = faultAt L i := if_neg (fun e => e h)
theorem faults_stop {L : List Pr} {i : Nat} (h : faults L i ≠ 0) (j : Nat) : faults L (i + j) = faults L i := by
  induction j with
  | zero => rfl
  | succ j ih => rw [← Nat.add_assoc, faults, if_pos (by rw [ih]; exact h), ih]
theorem faults_at {L : List Pr} {i n : Nat} (h : faults L i = 0) (hf : faultAt L i ≠ 0) (hi : i < n) : faults L n = faultAt L i := by
  have h1 := faults_succ h
  have h2 := faults_stop (L := L) (i := i + 1) (by rw [h1]; exact hf) (n - (i + 1))
  rw [Nat.add_sub_cancel' hi] at h2
  rw [h2, h1]

set_option maxHeartbeats 4000000 in
theorem check_any (name : ByteArray) (ao : Option Addr) (c : Nat) (L : List Pr) (w : World) (hr : PsAt w ao L) (hc : L.length ≤ c) (hl : L.length ≤ 9223372036854775807) (hz : name.size ≤ 9223372036854775807) (hs : Sh 9223372036854775807 L) :
    Calls Tryd.prog 11 #[.string name, .slice ao L.length c] w fun e w' => e = .returned (.int .i64 ((checkE name L : Nat) : Int)) ∧ Kept (fun _ => False) w w' := by
  have HN := Lib.hid fun w => isName_any name w hz
  have HR := Lib.hid hr
  have HS := Lib.hid hs
  obtain ⟨n, hn⟩ : ∃ n, n = L.length := ⟨_, rfl⟩
  have HNN := Lib.hid hn
  have HE : Hid (checkE name L = if nameB name = true then (if 4 < n then 4 else faults L n) else 3) := Lib.hid (by unfold checkE; rw [hn])
  obtain ⟨b, hb⟩ : ∃ b, b = nameB name := ⟨_, rfl⟩
  rw [← hb] at HN HE
  rw [← hn] at hc hl ⊢
  clear hr hs hn hb hz
  cases b with
  | false =>
    have HE2 := Lib.hid (HE.out.trans (if_neg (by decide)))
    go_enter Tryd.func11, Tryd.ntmps11
    go_wp2_with fail
    refine (HN.out w).mono ?_
    rintro e w1 ⟨rfl, rfl⟩
    go_wp2
    go_ret
    exact ⟨by rw [HE2.out]; rfl, Kept.refl _ _⟩
  | true =>
    have HE2 := Lib.hid (HE.out.trans (if_pos rfl))
    by_cases h4 : 4 < n
    · have HE3 := Lib.hid (HE2.out.trans (if_pos h4))
      have q : (4 : Int) < (n : Int) := by omega
      have q2 : decide (4 < n) = true := decide_eq_true h4
      go_enter Tryd.func11, Tryd.ntmps11
      go_wp2_with fail
      refine (HN.out w).mono ?_
      rintro e w1 ⟨rfl, rfl⟩
      go_wp2
      go_ret
      exact ⟨by rw [HE3.out]; rfl, Kept.refl _ _⟩
    · have HE3 := Lib.hid (HE2.out.trans (if_neg h4))
      have q : ¬ (4 : Int) < (n : Int) := by omega
      have q2 : decide (4 < n) = false := decide_eq_false h4
      have H4 := Lib.hid h4
      have HCC := Lib.hid hc
      obtain ⟨iP, hiP, hzP0, hzP1, hzP2⟩ := info_parts Tryd.infoPair
      clear hc hl h4 hzP0 hzP1 hzP2
      go_enter Tryd.func11, Tryd.ntmps11
      go_wp2_with fail
      refine (HN.out w).mono ?_
      rintro e w1 ⟨rfl, rfl⟩
      go_wp2
      go_loopg [15] n (fun g s15 wr => ∃ i : Nat, i ≤ n ∧ g = n - i ∧ s15 = .int .i64 i ∧ faults L i = 0 ∧ Kept (fun _ => False) w wr)
      case atStart => exact ⟨0, Nat.zero_le _, rfl, rfl, rfl, Kept.refl _ _⟩
      case round =>
        obtain ⟨i, hin, rfl, rfl, ha, kw⟩ := hrel
        have HA := Lib.hid ha
        have HK := Lib.hid kw
        clear ha kw
        by_cases hd : i < n
        · have hdi : (i : Int) < (n : Int) := by omega
          have hi0 : (0 : Int) ≤ (i : Int) := by omega
          have HD := Lib.hid hd
          have wi : IntKind.i64.wrap ((i : Int) + 1) = ((i + 1 : Nat) : Int) := by rw [IntWalk.i64_in _ ⟨by omega, by have := H4.out; omega⟩]; omega
          have hiL : i < L.length := by have := HNN.out; omega
          obtain ⟨gb, ob, rfl, hrec⟩ := HR.out (by omega)
          have hel := (hrec i L[i] (List.getElem?_eq_getElem hiL)).keptS HK.out (fun x => x)
          have hgd := getD_pr (List.getElem?_eq_getElem hiL) ⟨ByteArray.empty, ByteArray.empty⟩
          have hmem := List.getElem_mem hiL
          have hfa : faultAt L i = faultAt L i := rfl
          unfold faultAt at hfa
          rw [hgd] at hfa
          obtain ⟨P, hP⟩ : ∃ p, p = L[i] := ⟨_, rfl⟩
          rw [← hP] at hel hmem hfa
          have hsz := HS.out P hmem
          have HNK := Lib.hid fun w => isName_any P.k w hsz.1
          have HVV := Lib.hid fun w => isValue_any P.v w hsz.2
          have hcut : ∀ w, _ := fun w => run_cutHn (P := Tryd.prog) Tryd.underlying22 hiP (some ⟨gb, ob, none⟩) n c i (by have := HCC.out; omega) w
          have hcutA : ∀ w, _ := fun w => run_cutHnAt (P := Tryd.prog) Tryd.underlying22 hiP (some ⟨gb, ob, none⟩) n c i (by have := HCC.out; omega) w
          have HHAS := Lib.hid fun w' (k : Kept (fun _ => False) w w') => has_any (some ⟨gb, ob, none⟩) c (L.take i) P.k w' ((HR.out.kept k).take i) (by rw [List.length_take]; have := HNN.out; have := H4.out; omega)
          rw [List.length_take, Nat.min_eq_left (Nat.le_of_lt hiL)] at HHAS
          obtain ⟨NB, hNB⟩ : ∃ b, b = nameB P.k := ⟨_, rfl⟩
          obtain ⟨VB, hVB⟩ : ∃ b, b = valueB P.v := ⟨_, rfl⟩
          obtain ⟨HB, hHB⟩ : ∃ b, b = hasB (L.take i) P.k := ⟨_, rfl⟩
          rw [← hNB, ← hVB, ← hHB] at hfa
          rw [← hNB] at HNK
          rw [← hVB] at HVV
          rw [← hHB] at HHAS
          obtain ⟨FA, hFA⟩ : ∃ k, k = faultAt L i := ⟨_, rfl⟩
          have HFA := Lib.hid (show faultAt L i = FA from hFA.symm)
          have hfb : FA = if NB = true ∧ VB = true then (if HB = true then 8 else 0) else 3 := by
            rw [hFA]
            unfold faultAt
            rw [hgd, ← hP, ← hNB, ← hVB, ← hHB]
          have HFB := Lib.hid hfb
          obtain ⟨kk, kv⟩ := P
          obtain ⟨x0, x1⟩ := hel
          dsimp only at x0 x1 HNK HVV HHAS
          obtain ⟨w2, hw2⟩ : ∃ w', w' = wr.alloc (.cells #[.string kk, .string kv] 40) := ⟨_, rfl⟩
          have k2 : Kept (fun _ => False) wr w2 := by rw [hw2]; exact (Kept.refl _ _).alloc _
          obtain ⟨qa, hqa⟩ : ∃ q, q = wr.heap.size := ⟨_, rfl⟩
          have hbx : w2.heap[qa]? = some (.cells #[.string kk, .string kv] 40 (0, 0)) := by rw [hw2, hqa]; exact heap_alloc_new wr _
          have y0 : w2.cell? ⟨qa, 0, none⟩ = some (.string kk) := (cell_of_row _ _ 0 _ _ _ hbx).trans rfl
          have y1 : w2.cell? ⟨qa, 1, none⟩ = some (.string kv) := (cell_of_row _ _ 1 _ _ _ hbx).trans rfl
          have HW2 := Lib.hid (And.intro hw2 hqa)
          have HK2 := Lib.hid (HK.out.trans k2)
          clear hd hin hrec hP hiL hgd hmem hfa hsz hNB hVB hHB hFA hfb hw2 k2 hqa hbx
          go_upto_region 8 with fail
          rw [← HW2.out.1, ← HW2.out.2]
          clear x0 x1
          cases NB with
          | false =>
            have HF3 := Lib.hid (HFA.out.trans (HFB.out.trans (if_neg (fun e => by cases e.1))))
            go_wp2_with fail
            refine (HNK.out _).mono ?_
            rintro e w' ⟨rfl, rfl⟩
            go_wp2
            go_ret
            exact ⟨by rw [HE3.out, faults_at HA.out (by rw [HF3.out]; decide) HD.out, HF3.out]; rfl, HK2.out⟩
          | true =>
            cases VB with
            | false =>
              have HF3 := Lib.hid (HFA.out.trans (HFB.out.trans (if_neg (fun e => by cases e.2))))
              go_wp2_with fail
              refine (HNK.out _).mono ?_
              rintro e w' ⟨rfl, rfl⟩
              go_wp2_with fail
              refine (HVV.out _).mono ?_
              rintro e w' ⟨rfl, rfl⟩
              go_wp2
              go_ret
              exact ⟨by rw [HE3.out, faults_at HA.out (by rw [HF3.out]; decide) HD.out, HF3.out]; rfl, HK2.out⟩
            | true =>
              have HF3 := Lib.hid (HFA.out.trans (HFB.out.trans (if_pos ⟨rfl, rfl⟩)))
              go_wp2_with fail
              refine (HNK.out _).mono ?_
              rintro e w' ⟨rfl, rfl⟩
              go_wp2_with fail
              refine (HVV.out _).mono ?_
              rintro e w' ⟨rfl, rfl⟩
              go_upto_region 10 with fail
              have hkd := (Kept.refl (fun _ => False) w2).drew
              have HK3 := Lib.hid (HK2.out.trans hkd)
              have HSS : Hid ((fun w' => w'.cell? ⟨qa, 0, none⟩ = some (.string kk) ∧ w'.cell? ⟨qa, 1, none⟩ = some (.string kv)) w2.drew) := Lib.hid ⟨hkd.cell y0 (fun x => x), hkd.cell y1 (fun x => x)⟩
              clear hkd y0 y1
              refine AnyBut.start (S := fun w' => w'.cell? ⟨qa, 0, none⟩ = some (.string kk) ∧ w'.cell? ⟨qa, 1, none⟩ = some (.string kv)) (k := 6) (by kernel_rfl) ?_
              refine AnyBut.takeS (i := 0) (v := ?v1) rfl (by kernel_rfl) (Nat.le_of_eq (by kernel_rfl)) (by kernel_rfl) (by kernel_rfl) (fun _ _ _ h => h) (HSS.out) (Or.inl ⟨by kernel_rfl, ?hy1⟩) ?r1
              case hy1 =>
                intro w hSw
                try dsimp only at hSw
                go_simp
                try with_reducible rfl
              try simp only [Act.put, List.getElem_toArray, List.getElem_cons_zero, List.setIfInBounds_toArray, List.set_cons_zero, List.set_cons_succ]
              refine AnyBut.takeS (i := 1) (v := ?v2) rfl (by kernel_rfl) (Nat.le_of_eq (by kernel_rfl)) (by kernel_rfl) (by kernel_rfl) (fun _ _ _ h => h) (HSS.out) (Or.inl ⟨by kernel_rfl, ?hy2⟩) ?r2
              case hy2 =>
                intro w hSw
                try dsimp only at hSw
                go_simp
                try with_reducible rfl
              try simp only [Act.put, List.getElem_toArray, List.getElem_cons_succ, List.getElem_cons_zero, List.setIfInBounds_toArray, List.set_cons_zero, List.set_cons_succ]
              refine AnyBut.takeS (i := 2) (v := ?v3) rfl (by kernel_rfl) (Nat.le_of_eq (by kernel_rfl)) (by kernel_rfl) (by kernel_rfl) (fun _ _ _ h => h) (HSS.out) (Or.inl ⟨by kernel_rfl, ?hy3⟩) ?r3
              case hy3 =>
                intro w hSw
                try dsimp only at hSw
                go_simp
                try with_reducible rfl
              try simp only [Act.put, List.getElem_toArray, List.getElem_cons_succ, List.getElem_cons_zero, List.setIfInBounds_toArray, List.set_cons_zero, List.set_cons_succ]
              refine AnyBut.takeS (i := 3) (v := ?v4) rfl (by kernel_rfl) (Nat.le_of_eq (by kernel_rfl)) (by kernel_rfl) (by kernel_rfl) (fun _ _ _ h => h) (HSS.out) (Or.inl ⟨by kernel_rfl, ?hy4⟩) ?r4
              case hy4 =>
                intro w hSw
                try dsimp only at hSw
                go_simp
                try with_reducible rfl
              try simp only [Act.put, List.getElem_toArray, List.getElem_cons_succ, List.getElem_cons_zero, List.setIfInBounds_toArray, List.set_cons_zero, List.set_cons_succ]
              refine AnyBut.takeS (i := 4) (v := ?v5) rfl (by kernel_rfl) (Nat.le_of_eq (by kernel_rfl)) (by kernel_rfl) (by kernel_rfl) (fun _ _ _ h => h) (HSS.out) (Or.inl ⟨by kernel_rfl, ?hy5⟩) ?r5
              case hy5 =>
                intro w hSw
                try dsimp only at hSw
                go_simp
                try with_reducible rfl
              try simp only [Act.put, List.getElem_toArray, List.getElem_cons_succ, List.getElem_cons_zero, List.setIfInBounds_toArray, List.set_cons_zero, List.set_cons_succ]
              refine AnyBut.one (i := 5) (by kernel_rfl) rfl (fun K hK => ?_)
              go_simp
              go_wp2_with fail
              refine (HHAS.out _ (HK3.out)).mono ?_
              rintro e w4 ⟨rfl, k4⟩
              have HK4 := Lib.hid (HK3.out.trans k4)
              have HSS4 : Hid ((fun w' => w'.cell? ⟨qa, 0, none⟩ = some (.string kk) ∧ w'.cell? ⟨qa, 1, none⟩ = some (.string kv)) w4) := Lib.hid ⟨k4.cell HSS.out.1 (fun x => x), k4.cell HSS.out.2 (fun x => x)⟩
              clear k4
              go_wp2
              refine hK.out _ _ (HSS4.out) ?_
              clear hK K
              try simp only [Act.put, List.getElem_toArray, List.getElem_cons_succ, List.getElem_cons_zero, List.setIfInBounds_toArray, List.set_cons_zero, List.set_cons_succ]
              refine AnyBut.done (by kernel_rfl) ?_
              cases HB with
              | false =>
                have HF4 := Lib.hid (HF3.out.trans (if_neg (by decide)))
                go_wp2
                go_roundg (n - (i + 1))
                case measure => have := HD.out; omega
                case rel => exact ⟨i + 1, HD.out, rfl, rfl, by rw [faults_succ HA.out]; exact HF4.out, HK4.out⟩
              | true =>
                have HF4 := Lib.hid (HF3.out.trans (if_pos rfl))
                go_wp2
                go_ret
                exact ⟨by rw [HE3.out, faults_at HA.out (by rw [HF4.out]; decide) HD.out, HF4.out]; rfl, HK4.out⟩
        · obtain rfl : n = i := by omega
          clear hd
          go_wp2
          go_ret
          exact ⟨by rw [HE3.out, HA.out]; rfl, HK.out⟩
end Go.Proofs.YtkgjkcfjkjkflaaDoor

