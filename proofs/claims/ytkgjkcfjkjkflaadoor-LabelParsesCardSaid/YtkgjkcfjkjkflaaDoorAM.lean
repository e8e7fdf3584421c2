/- Layer 11: Index, Contains, Matches (written by tools/gen_XAM.py). -/
import Derived.Test.YtkgjkcfjkjkflaaDoorAL
namespace Go.Proofs.YtkgjkcfjkjkflaaDoor
open Go.RowKit
attribute [local go_sem ↓] Go.wp_at_zero Go.wp_at_succ

/-- Is that attribute among those? -/
def contB (L : List Pr) (x : Pr) : Bool := L.any fun p => eqP x p
theorem contB_iff (L : List Pr) (x : Pr) : contB L x = true ↔ x ∈ L := by
  unfold contB
  rw [List.any_eq_true]
  constructor
  · rintro ⟨p, hp, e⟩
    rw [(eqP_iff _ _).1 e]
    exact hp
  · intro h
    exact ⟨x, h, (eqP_iff _ _).2 rfl⟩
theorem eql_pair (a b c d : ByteArray) (w : World) : (binOp .eql 40 (.agg #[.string a, .string b]) (.agg #[.string c, .string d])).run Tryd.prog w = .ok (.bool ((a.toList == c.toList) && (b.toList == d.toList))) w := by
  cases h1 : (a.toList == c.toList) <;> cases h2 : (b.toList == d.toList) <;> go_simp

set_option maxHeartbeats 4000000 in
theorem index_any (ao : Option Addr) (c : Nat) (L : List Pr) (x : Pr) (w : World) (hr : PsAt w ao L) (hl : L.length ≤ 1000000) :
    Calls Tryd.prog 40 #[.slice ao L.length c, .agg #[.string x.k, .string x.v]] w fun e w' => (∃ z : Int, e = .returned (.int .i64 z) ∧ decide (0 ≤ z) = contB L x) ∧ Kept (fun _ => False) w w' := by
  obtain ⟨w1, hw1⟩ : ∃ w1, w1 = w.alloc (.cells #[.string x.k, .string x.v] 40) := ⟨_, rfl⟩
  have k1 : Kept (fun _ => False) w w1 := by rw [hw1]; exact (Kept.refl _ _).alloc _
  have c0 : w1.cell? ⟨w.heap.size, 0, none⟩ = some (.string x.k) := by rw [hw1]; exact (cell_of_row _ _ 0 _ _ _ (heap_alloc_new w _)).trans rfl
  have c1 : w1.cell? ⟨w.heap.size, 1, none⟩ = some (.string x.v) := by rw [hw1]; exact (cell_of_row _ _ 1 _ _ _ (heap_alloc_new w _)).trans rfl
  obtain ⟨kb, hkb⟩ : ∃ k, k = w.heap.size := ⟨_, rfl⟩
  rw [← hkb] at c0 c1
  have HR := Lib.hid (hr.kept k1)
  have HW := Lib.hid (And.intro hw1 hkb)
  have HK1 := Lib.hid k1
  have HC := Lib.hid (And.intro c0 c1)
  have HL := Lib.hid hl
  have HX : Hid (∀ i p, L[i]? = some p → eqP x p = true → contB L x = true) := Lib.hid (fun i p hi e => List.any_eq_true.2 ⟨p, List.mem_of_getElem? hi, e⟩)
  have HE : Hid (∀ i p, L[i]? = some p → (L.take i).any (fun p => eqP x p) = false → eqP x p = false → (L.take (i + 1)).any (fun p => eqP x p) = false) := Lib.hid (fun i p hi h1 h2 => by rw [any_take_succ hi, h1, h2]; rfl)
  have HF : Hid ((L.take L.length).any (fun p => eqP x p) = false → contB L x = false) := Lib.hid (fun h => by rw [List.take_length] at h; exact h)
  obtain ⟨n, hn⟩ : ∃ n, n = L.length := ⟨_, rfl⟩
  have HN := Lib.hid hn
  rw [← hn] at HF ⊢
  obtain ⟨C, hC⟩ : ∃ C, C = contB L x := ⟨_, rfl⟩
  rw [← hC] at HX HF ⊢
  obtain ⟨A, hA⟩ : ∃ A : Nat → Bool, A = fun i => (L.take i).any (fun p => eqP x p) := ⟨_, rfl⟩
  have HA0 : Hid (A 0 = false) := Lib.hid (by rw [hA]; rfl)
  replace HE : Hid (∀ i p, L[i]? = some p → A i = false → eqP x p = false → A (i + 1) = false) := Lib.hid (by rw [hA]; exact HE.out)
  replace HF : Hid (A n = false → C = false) := Lib.hid (by rw [hA]; exact HF.out)
  obtain ⟨xk, xv⟩ := x
  dsimp only at HC HW ⊢
  clear hr hl hn hw1 hkb k1 c0 c1 hC hA
  go_enter Tryd.func40, Tryd.ntmps40
  go_upto_region 1 with fail
  rw [← HW.out.1, ← HW.out.2]
  go_wp2
  go_loopg [8] n (fun g s8 wr => ∃ i : Nat, i ≤ n ∧ g = n - i ∧ s8 = .int .i64 i ∧ A i = false ∧ Kept (fun _ => False) w1 wr)
  case atStart => exact ⟨0, Nat.zero_le _, rfl, rfl, HA0.out, Kept.refl _ _⟩
  case round =>
    obtain ⟨i, hin, rfl, rfl, ha, kw⟩ := hrel
    have HA := Lib.hid ha
    have HK := Lib.hid kw.drew
    have HK0 := Lib.hid kw
    clear ha kw
    by_cases hd : i < n
    · have hdi : (i : Int) < (n : Int) := by omega
      have hi0 : (0 : Int) ≤ (i : Int) := by omega
      have HD := Lib.hid hd
      have wi : IntKind.i64.wrap ((i : Int) + 1) = ((i + 1 : Nat) : Int) := by rw [IntWalk.i64_in _ ⟨by omega, by have := HL.out; have := HN.out; omega⟩]; omega
      have hiL : i < L.length := by have := HN.out; omega
      obtain ⟨ga, oa, rfl, hrec⟩ := HR.out (by omega)
      have e1 := (hrec i L[i] (List.getElem?_eq_getElem hiL)).keptS HK.out (fun x => x)
      have g1 := List.getElem?_eq_getElem hiL
      obtain ⟨y, hy⟩ : ∃ p, p = L[i] := ⟨_, rfl⟩
      rw [← hy] at e1 g1
      have q0 := HK.out.cell HC.out.1 (fun x => x)
      have q1 := HK.out.cell HC.out.2 (fun x => x)
      obtain ⟨yk, yv⟩ := y
      have HXI := Lib.hid (HX.out i _ g1)
      have HEI := Lib.hid (HE.out i _ g1 HA.out)
      have hnp := eql_pair xk xv yk yv
      obtain ⟨b, hb⟩ : ∃ b, b = eqP ⟨xk, xv⟩ ⟨yk, yv⟩ := ⟨_, rfl⟩
      rw [show ((xk.toList == yk.toList) && (xv.toList == yv.toList)) = b from hb.symm] at hnp
      rw [← hb] at HXI HEI
      have HSS : Hid ((fun w' => w'.cell? ⟨kb, 0, none⟩ = some (.string xk) ∧ w'.cell? ⟨kb, 1, none⟩ = some (.string xv) ∧ w'.cell? ⟨ga, oa + i * 2, none⟩ = some (.string yk) ∧ w'.cell? ⟨ga, oa + i * 2 + 1, none⟩ = some (.string yv)) wr.drew) := Lib.hid ⟨q0, q1, e1.c0, e1.c1⟩
      clear hd hin hiL hrec e1 g1 hy hb q0 q1
      go_upto_region 4 with fail
      refine AnyBut.start (S := fun w' => w'.cell? ⟨kb, 0, none⟩ = some (.string xk) ∧ w'.cell? ⟨kb, 1, none⟩ = some (.string xv) ∧ w'.cell? ⟨ga, oa + i * 2, none⟩ = some (.string yk) ∧ w'.cell? ⟨ga, oa + i * 2 + 1, none⟩ = some (.string yv)) (k := 6) (by kernel_rfl) ?_
      refine AnyBut.takeS (i := 0) (v := ?v1) rfl (by kernel_rfl) (Nat.le_of_eq (by kernel_rfl)) (by kernel_rfl) (by kernel_rfl) (fun _ _ _ h => h) (HSS.out) (Or.inl ⟨by kernel_rfl, ?hy1⟩) ?r1
      case hy1 =>
        intro w hSw
        try dsimp only at hSw
        go_simp
        try with_reducible rfl
      try simp only [Act.put, List.getElem_toArray, List.getElem_cons_zero, List.setIfInBounds_toArray, List.set_cons_zero, List.set_cons_succ]
      refine AnyBut.takeS (i := 1) (v := ?v2) rfl (by kernel_rfl) (Nat.le_of_eq (by kernel_rfl)) (by kernel_rfl) (by kernel_rfl) (fun _ _ _ h => h) (HSS.out) (Or.inl ⟨by kernel_rfl, ?hy2⟩) ?r2
      case hy2 =>
        intro w hSw
        try dsimp only at hSw
        go_simp
        try with_reducible rfl
      try simp only [Act.put, List.getElem_toArray, List.getElem_cons_succ, List.getElem_cons_zero, List.setIfInBounds_toArray, List.set_cons_zero, List.set_cons_succ]
      refine AnyBut.takeS (i := 2) (v := ?v3) rfl (by kernel_rfl) (Nat.le_of_eq (by kernel_rfl)) (by kernel_rfl) (by kernel_rfl) (fun _ _ _ h => h) (HSS.out) (Or.inl ⟨by kernel_rfl, ?hy3⟩) ?r3
      case hy3 =>
        intro w hSw
        try dsimp only at hSw
        go_simp
        try with_reducible rfl
      try simp only [Act.put, List.getElem_toArray, List.getElem_cons_succ, List.getElem_cons_zero, List.setIfInBounds_toArray, List.set_cons_zero, List.set_cons_succ]
      refine AnyBut.takeS (i := 3) (v := ?v4) rfl (by kernel_rfl) (Nat.le_of_eq (by kernel_rfl)) (by kernel_rfl) (by kernel_rfl) (fun _ _ _ h => h) (HSS.out) (Or.inl ⟨by kernel_rfl, ?hy4⟩) ?r4
      case hy4 =>
        intro w hSw
        try dsimp only at hSw
        go_simp
        try with_reducible rfl
      try simp only [Act.put, List.getElem_toArray, List.getElem_cons_succ, List.getElem_cons_zero, List.setIfInBounds_toArray, List.set_cons_zero, List.set_cons_succ]
      refine AnyBut.takeS (i := 4) (v := ?v5) rfl (by kernel_rfl) (Nat.le_of_eq (by kernel_rfl)) (by kernel_rfl) (by kernel_rfl) (fun _ _ _ h => h) (HSS.out) (Or.inl ⟨by kernel_rfl, ?hy5⟩) ?r5
      case hy5 =>
        intro w hSw
        try dsimp only at hSw
        go_simp
        try with_reducible rfl
      try simp only [Act.put, List.getElem_toArray, List.getElem_cons_succ, List.getElem_cons_zero, List.setIfInBounds_toArray, List.set_cons_zero, List.set_cons_succ]
      refine AnyBut.takeS (i := 5) (v := ?v6) rfl (by kernel_rfl) (Nat.le_of_eq (by kernel_rfl)) (by kernel_rfl) (by kernel_rfl) (fun _ _ _ h => h) (HSS.out) (Or.inl ⟨by kernel_rfl, ?hy6⟩) ?r6
      case hy6 =>
        intro w hSw
        try dsimp only at hSw
        go_simp
        try with_reducible rfl
      try simp only [Act.put, List.getElem_toArray, List.getElem_cons_succ, List.getElem_cons_zero, List.setIfInBounds_toArray, List.set_cons_zero, List.set_cons_succ]
      refine AnyBut.done (by kernel_rfl) ?_
      cases b with
      | true =>
        go_wp2
        go_ret
        refine ⟨⟨i, rfl, ?_⟩, HK1.out.trans HK.out⟩
        rw [decide_eq_true (by omega)]
        exact (HXI.out (by trivial)).symm
      | false =>
        go_wp2
        go_roundg (n - (i + 1))
        case measure => have := HD.out; omega
        case rel => exact ⟨i + 1, HD.out, rfl, rfl, HEI.out (by trivial), HK.out⟩
    · obtain rfl : n = i := by omega
      have HF2 := Lib.hid (HF.out HA.out)
      clear hd
      go_wp2
      go_ret
      exact ⟨⟨-1, rfl, by rw [HF2.out]; rfl⟩, HK1.out.trans HK0.out⟩

set_option maxHeartbeats 2000000 in
theorem contains_any (ao : Option Addr) (c : Nat) (L : List Pr) (x : Pr) (w : World) (hr : PsAt w ao L) (hl : L.length ≤ 1000000) :
    Calls Tryd.prog 32 #[.slice ao L.length c, .agg #[.string x.k, .string x.v]] w fun e w' => e = .returned (.bool (contB L x)) ∧ Kept (fun _ => False) w w' := by
  obtain ⟨w1, hw1⟩ : ∃ w1, w1 = w.alloc (.cells #[.string x.k, .string x.v] 40) := ⟨_, rfl⟩
  have k1 : Kept (fun _ => False) w w1 := by rw [hw1]; exact (Kept.refl _ _).alloc _
  have c0 : w1.cell? ⟨w.heap.size, 0, none⟩ = some (.string x.k) := by rw [hw1]; exact (cell_of_row _ _ 0 _ _ _ (heap_alloc_new w _)).trans rfl
  have c1 : w1.cell? ⟨w.heap.size, 1, none⟩ = some (.string x.v) := by rw [hw1]; exact (cell_of_row _ _ 1 _ _ _ (heap_alloc_new w _)).trans rfl
  obtain ⟨kb, hkb⟩ : ∃ k, k = w.heap.size := ⟨_, rfl⟩
  rw [← hkb] at c0 c1
  have HI := Lib.hid (index_any ao c L x w1 (hr.kept k1) hl)
  have HW := Lib.hid (And.intro hw1 hkb)
  have HK1 := Lib.hid k1
  obtain ⟨n, hn⟩ : ∃ n, n = L.length := ⟨_, rfl⟩
  rw [← hn] at HI ⊢
  obtain ⟨b, hb⟩ : ∃ b, b = contB L x := ⟨_, rfl⟩
  rw [← hb] at HI ⊢
  obtain ⟨xk, xv⟩ := x
  dsimp only at HI HW c0 c1 ⊢
  clear hr hl hn hw1 hkb k1 hb
  go_enter Tryd.func32, Tryd.ntmps32
  go_upto_region 1 with fail
  rw [← HW.out.1, ← HW.out.2]
  go_wp2_with fail
  refine HI.out.mono ?_
  rintro e w2 ⟨⟨z, rfl, hz⟩, k2⟩
  clear HI
  cases b with
  | true =>
    have hz2 : (0 : Int) ≤ z := of_decide_eq_true hz
    go_wp2
    go_ret
    exact ⟨rfl, HK1.out.trans k2⟩
  | false =>
    have hz2 : ¬ (0 : Int) ≤ z := of_decide_eq_false hz
    go_wp2
    go_ret
    exact ⟨rfl, HK1.out.trans k2⟩

set_option maxHeartbeats 2000000 in
/-- Matches' function. -/
theorem lacksFn_any (kb : Nat) (ao : Option Addr) (c : Nat) (L : List Pr) (x : Pr) (w : World) (hk : w.cell? ⟨kb, 0, none⟩ = some (.slice ao L.length c)) (hr : PsAt w ao L) (hl : L.length ≤ 1000000) :
    Calls Tryd.prog 31 #[.agg #[.string x.k, .string x.v], .pointer (some ⟨kb, 0, none⟩)] w fun e w' => e = .returned (.bool (!contB L x)) ∧ Kept (fun _ => False) w w' := by
  obtain ⟨w1, hw1⟩ : ∃ w1, w1 = w.alloc (.cells #[.string x.k, .string x.v] 40) := ⟨_, rfl⟩
  have k1 : Kept (fun _ => False) w w1 := by rw [hw1]; exact (Kept.refl _ _).alloc _
  have c0 : w1.cell? ⟨w.heap.size, 0, none⟩ = some (.string x.k) := by rw [hw1]; exact (cell_of_row _ _ 0 _ _ _ (heap_alloc_new w _)).trans rfl
  have c1 : w1.cell? ⟨w.heap.size, 1, none⟩ = some (.string x.v) := by rw [hw1]; exact (cell_of_row _ _ 1 _ _ _ (heap_alloc_new w _)).trans rfl
  have ck := k1.cell hk (fun x => x)
  obtain ⟨kc, hkc⟩ : ∃ k, k = w.heap.size := ⟨_, rfl⟩
  rw [← hkc] at c0 c1
  have HI := Lib.hid (contains_any ao c L x w1 (hr.kept k1) hl)
  have HW := Lib.hid (And.intro hw1 hkc)
  have HK1 := Lib.hid k1
  obtain ⟨n, hn⟩ : ∃ n, n = L.length := ⟨_, rfl⟩
  rw [← hn] at HI ck
  obtain ⟨b, hb⟩ : ∃ b, b = contB L x := ⟨_, rfl⟩
  rw [← hb] at HI ⊢
  obtain ⟨xk, xv⟩ := x
  dsimp only at HI HW c0 c1 ⊢
  clear hr hl hn hw1 hkc k1 hb hk
  go_enter Tryd.func31, Tryd.ntmps31
  go_upto_region 1 with fail
  rw [← HW.out.1, ← HW.out.2]
  go_wp2_with fail
  refine HI.out.mono ?_
  rintro e w2 ⟨rfl, k2⟩
  go_wp2
  go_ret
  exact ⟨rfl, HK1.out.trans k2⟩
theorem enter_lacks (w : World) (args : Array Value) : (callFunc 31 args).run Tryd.prog w = .ok (.enter 31 args) w := by
  have hb : (Tryd.f31).body.isSome = true := by kernel_rfl
  obtain ⟨c, hc⟩ := Option.isSome_iff_exists.1 hb
  have h1 : (Tryd.f31).name ≠ "runtime.NumGoroutine" := by
    have : ((Tryd.f31).name == "runtime.NumGoroutine") = false := by kernel_rfl
    simpa using this
  simp [callFunc, Tryd.func31, h1, hc]

/-- Has a label all that another one has? -/
def matB (n1 : ByteArray) (L : List Pr) (n2 : ByteArray) (M : List Pr) : Bool := decide (checkE n1 L = 0) && (decide (checkE n2 M = 0) && ((n1.toList == n2.toList) && !(M.any fun a => !contB L a)))
theorem any_not (L M : List Pr) : (!(M.any fun a => !contB L a)) = true ↔ ∀ a ∈ M, a ∈ L := by
  rw [Bool.not_eq_true', List.any_eq_false]
  exact ⟨fun h a ha => (contB_iff L a).1 (by have := h a ha; simpa using this), fun h a ha => by rw [(contB_iff L a).2 (h a ha)]; decide⟩

set_option maxHeartbeats 4000000 in
theorem matches_any (name name2 : ByteArray) (ao bo : Option Addr) (c d : Nat) (L M : List Pr) (w : World) (hr : PsAt w ao L) (hs : PsAt w bo M) (hc : L.length ≤ c) (hd : M.length ≤ d) (hl : L.length ≤ 1000000) (hm : M.length ≤ 1000000) (hz : name.size ≤ 9223372036854775807) (hz2 : name2.size ≤ 9223372036854775807) (hsL : Sh 9223372036854775807 L) (hsM : Sh 9223372036854775807 M) :
    Calls Tryd.prog 18 #[.string name, .slice ao L.length c, .string name2, .slice bo M.length d] w fun e w' => e = .returned (.bool (matB name L name2 M)) ∧ Kept (fun _ => False) w w' := by
  obtain ⟨w1, hw1⟩ : ∃ w1, w1 = w.alloc (.cells #[.slice ao L.length c] 22) := ⟨_, rfl⟩
  have k1 : Kept (fun _ => False) w w1 := by rw [hw1]; exact (Kept.refl _ _).alloc _
  have c0 : w1.cell? ⟨w.heap.size, 0, none⟩ = some (.slice ao L.length c) := by rw [hw1]; exact (cell_of_row _ _ 0 _ _ _ (heap_alloc_new w _)).trans rfl
  obtain ⟨kb, hkb⟩ : ∃ k, k = w.heap.size := ⟨_, rfl⟩
  rw [← hkb] at c0
  have HC1 := Lib.hid (check_any name ao c L w1 (hr.kept k1) hc (by omega) hz hsL)
  have HC2 := Lib.hid fun w' (k : Kept (fun _ => False) w1 w') => check_any name2 bo d M w' ((hs.kept k1).kept k) hd (by omega) hz2 hsM
  have HCF := Lib.hid fun w' (k : Kept (fun _ => False) w1 w') => containsFunc_any bo d M 31 #[.pointer (some ⟨kb, 0, none⟩)] (fun a => !contB L a) w' ((hs.kept k1).kept k) hm ⟨fun w'' x kk => lacksFn_any kb ao c L x w'' ((k.trans kk).cell c0 (fun x => x)) ((hr.kept k1).kept (k.trans kk)) hl, enter_lacks⟩
  have HW := Lib.hid (And.intro hw1 hkb)
  have HK1 := Lib.hid k1
  unfold matB
  obtain ⟨n, hn⟩ : ∃ n, n = L.length := ⟨_, rfl⟩
  obtain ⟨m, hm'⟩ : ∃ n, n = M.length := ⟨_, rfl⟩
  rw [← hn] at HC1 HW c0 ⊢
  rw [← hm'] at HC2 HCF ⊢
  obtain ⟨E1, hE1⟩ : ∃ e, e = checkE name L := ⟨_, rfl⟩
  obtain ⟨E2, hE2⟩ : ∃ e, e = checkE name2 M := ⟨_, rfl⟩
  obtain ⟨b, hb⟩ : ∃ b, b = M.any fun a => !contB L a := ⟨_, rfl⟩
  rw [← hE1] at HC1 ⊢
  rw [← hE2] at HC2 ⊢
  rw [← hb] at HCF ⊢
  obtain ⟨b2, hb2⟩ : ∃ b, b = (name.toList == name2.toList) := ⟨_, rfl⟩
  rw [← hb2]
  replace hb2 := hb2.symm
  clear hr hs hc hd hl hm hz hz2 hsL hsM hw1 hkb k1 hn hm' hE1 hE2 hb
  by_cases h1 : E1 = 0
  · subst h1
    by_cases h2 : E2 = 0
    · subst h2
      cases b2 with
      | false =>
        go_enter Tryd.func18, Tryd.ntmps18
        go_upto_region 1 with fail
        rw [← HW.out.1, ← HW.out.2]
        go_wp2_with fail
        refine HC1.out.mono ?_
        rintro e w2 ⟨rfl, k2⟩
        go_wp2_with fail
        refine (HC2.out _ k2).mono ?_
        rintro e w3 ⟨rfl, k3⟩
        have K3 := k2.trans k3
        go_wp2
        go_ret
        exact ⟨rfl, HK1.out.trans K3⟩
      | true =>
        go_enter Tryd.func18, Tryd.ntmps18
        go_upto_region 1 with fail
        rw [← HW.out.1, ← HW.out.2]
        go_wp2_with fail
        refine HC1.out.mono ?_
        rintro e w2 ⟨rfl, k2⟩
        go_wp2_with fail
        refine (HC2.out _ k2).mono ?_
        rintro e w3 ⟨rfl, k3⟩
        have K3 := k2.trans k3
        go_wp2_with fail
        refine (HCF.out _ K3).mono ?_
        rintro e w4 ⟨rfl, k4⟩
        go_wp2
        go_ret
        exact ⟨by cases b <;> rfl, HK1.out.trans (K3.trans k4)⟩
    · have q2 : ((E2 : Int) != 0) = true := bneT (by omega)
      have d2 : decide (E2 = 0) = false := decide_eq_false h2
      rw [d2]
      clear h2 d2
      go_enter Tryd.func18, Tryd.ntmps18
      go_upto_region 1 with fail
      rw [← HW.out.1, ← HW.out.2]
      go_wp2_with fail
      refine HC1.out.mono ?_
      rintro e w2 ⟨rfl, k2⟩
      go_wp2_with fail
      refine (HC2.out _ k2).mono ?_
      rintro e w3 ⟨rfl, k3⟩
      have K3 := k2.trans k3
      go_wp2
      go_ret
      exact ⟨rfl, HK1.out.trans K3⟩
  · have q1 : ((E1 : Int) != 0) = true := bneT (by omega)
    have d1 : decide (E1 = 0) = false := decide_eq_false h1
    rw [d1]
    clear h1 d1
    go_enter Tryd.func18, Tryd.ntmps18
    go_upto_region 1 with fail
    rw [← HW.out.1, ← HW.out.2]
    go_wp2_with fail
    refine HC1.out.mono ?_
    rintro e w2 ⟨rfl, k2⟩
    go_wp2
    go_ret
    exact ⟨rfl, HK1.out.trans k2⟩

theorem bytesLess_trans : ∀ x y z : List UInt8, Op.bytesLess x y = true → Op.bytesLess y z = true → Op.bytesLess x z = true
  | [], [], _, h, _ => by unfold Op.bytesLess at h; cases h
  | _ :: _, [], _, h, _ => by unfold Op.bytesLess at h; cases h
  | _, _ :: _, [], _, h => by unfold Op.bytesLess at h; cases h
  | [], _ :: _, _ :: _, _, _ => rfl
  | a :: x, b :: y, c :: z, h1, h2 => by
    have ih := bytesLess_trans x y z
    unfold Op.bytesLess at h1 h2 ⊢
    rw [Bool.or_eq_true, Bool.and_eq_true, decide_eq_true_eq, beq_iff_eq] at h1 h2 ⊢
    rw [UInt8.lt_iff_toNat_lt] at h1 h2 ⊢
    rcases h1 with h1 | ⟨e1, h1⟩
    · rcases h2 with h2 | ⟨e2, h2⟩
      · exact .inl (by omega)
      · subst e2; exact .inl h1
    · subst e1
      rcases h2 with h2 | ⟨e2, h2⟩
      · exact .inl h2
      · exact .inr ⟨e2, ih h1 h2⟩
theorem ltS_trans {a b c : ByteArray} (h1 : ltS a b = true) (h2 : ltS b c = true) : ltS a c = true := bytesLess_trans _ _ _ h1 h2
theorem ltS_of {a b : ByteArray} (h : ltS b a = false) (hn : a ≠ b) : ltS a b = true := by
  have := bytesLess_total a.toList b.toList
  unfold ltS at h ⊢
  rw [h, show (a.toList == b.toList) = false from by rw [beq_bytes]; exact decide_eq_false hn, Bool.or_false] at this
  exact this
theorem strict_sort {L : List Pr} (h : Dis L) : (sortP L).Pairwise fun a b => ltS a.k b.k = true := by
  have hA := sortP_adj L
  have hD := dis_sort h
  obtain ⟨A, hAe⟩ : ∃ A, A = sortP L := ⟨_, rfl⟩
  rw [← hAe] at hA hD ⊢
  rw [List.pairwise_iff_getElem]
  have key : ∀ (d i : Nat) (h1 : i < A.length) (h2 : i + 1 + d < A.length), ltS A[i].k A[i + 1 + d].k = true := by
    intro d
    induction d with
    | zero =>
      intro i h1 h2
      have e := hA i h2
      rw [getD_pr (List.getElem?_eq_getElem h2), getD_pr (List.getElem?_eq_getElem h1)] at e
      exact ltS_of e (List.pairwise_iff_getElem.1 hD i (i + 1) h1 h2 (by omega))
    | succ d ih =>
      intro i h1 h2
      have e1 := ih i h1 (by omega)
      have e := hA (i + 1 + d) (by omega)
      rw [getD_pr (List.getElem?_eq_getElem (show i + 1 + d + 1 < A.length by omega)), getD_pr (List.getElem?_eq_getElem (show i + 1 + d < A.length by omega))] at e
      exact ltS_trans e1 (ltS_of e (List.pairwise_iff_getElem.1 hD (i + 1 + d) (i + 1 + d + 1) (by omega) (by omega) (by omega)))
  intro i j hi hj hij
  have := key (j - (i + 1)) i hi (by omega)
  have e : i + 1 + (j - (i + 1)) = j := by omega
  simp only [e] at this
  exact this
theorem strict_same : ∀ {A B : List Pr}, (A.Pairwise fun a b => ltS a.k b.k = true) → (B.Pairwise fun a b => ltS a.k b.k = true) → (∀ x, x ∈ A ↔ x ∈ B) → A = B
  | [], [], _, _, _ => rfl
  | [], b :: B, _, _, h => absurd ((h b).2 (.head _)) (by simp)
  | a :: A, [], _, _, h => absurd ((h a).1 (.head _)) (by simp)
  | a :: A, b :: B, hA, hB, h => by
    have hA1 := List.pairwise_cons.1 hA
    have hB1 := List.pairwise_cons.1 hB
    have irr : ∀ x : Pr, ¬ ltS x.k x.k = true := fun x e => by have := ltS_asymm e; rw [e] at this; cases this
    have e : a = b := by
      by_cases he : a = b
      · exact he
      exfalso
      have h1 : a ∈ B := by
        rcases List.mem_cons.1 ((h a).1 (.head _)) with e | e
        · exact absurd e he
        · exact e
      have h2 : b ∈ A := by
        rcases List.mem_cons.1 ((h b).2 (.head _)) with e | e
        · exact absurd e.symm he
        · exact e
      have l1 := hB1.1 a h1
      have l2 := hA1.1 b h2
      rw [ltS_asymm l1] at l2
      cases l2
    subst e
    refine congrArg (a :: ·) (strict_same hA1.2 hB1.2 fun x => ⟨fun hx => ?_, fun hx => ?_⟩)
    · rcases List.mem_cons.1 ((h x).1 (.tail _ hx)) with e | e
      · subst e; exact absurd (hA1.1 x hx) (irr x)
      · exact e
    · rcases List.mem_cons.1 ((h x).2 (.tail _ hx)) with e | e
      · subst e; exact absurd (hB1.1 x hx) (irr x)
      · exact e
theorem textT_snd' {name : ByteArray} {L : List Pr} {S : ByteArray} {E : Nat} (h : textT name L = (S, E)) : checkE name L = E := by rw [← textT_snd, h]
/-- Each has what the other one has just if they have one text. -/
theorem mat_mat {n1 n2 S1 S2 : ByteArray} {L M : List Pr} {E1 E2 : Nat} (h1 : textT n1 L = (S1, E1)) (h2 : textT n2 M = (S2, E2)) : (matB n1 L n2 M && matB n2 M n1 L) = (decide (E1 = 0) && (decide (E2 = 0) && (S1.toList == S2.toList))) := by
  have c1 := textT_snd' h1
  have c2 := textT_snd' h2
  unfold matB
  rw [c1, c2]
  by_cases e1 : E1 = 0
  · by_cases e2 : E2 = 0
    · subst e1
      subst e2
      rw [text_same h1 h2, decide_eq_true rfl, beq_bytes, beq_bytes]
      simp only [Bool.true_and]
      by_cases hn : n1 = n2
      · subst hn
        simp only [decide_true, Bool.true_and]
        have dL := (checkE_facts c1).2.2.2
        have dM := (checkE_facts c2).2.2.2
        rw [Bool.eq_iff_iff, Bool.and_eq_true, any_not, any_not, sameL_iff]
        constructor
        · rintro ⟨a, b⟩
          exact strict_same (strict_sort dL) (strict_sort dM) fun x => by rw [sortP_mem, sortP_mem]; exact ⟨b x, a x⟩
        · intro e
          exact ⟨fun x hx => by rw [← sortP_mem, e, sortP_mem]; exact hx, fun x hx => by rw [← sortP_mem, ← e, sortP_mem]; exact hx⟩
      · simp only [decide_eq_false hn, Bool.false_and]
    · simp only [decide_eq_false e2, Bool.false_and, Bool.and_false]
  · simp only [decide_eq_false e1, Bool.false_and, Bool.and_false]
end Go.Proofs.YtkgjkcfjkjkflaaDoor

