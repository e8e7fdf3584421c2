/- Texts put together: F14. -/
import Derived.Test.YtficodklidaheaaDoorZz7
import Derived.Deep.RegionHeld3
import Derived.Test.YtficodklidaheaaDoorZz22
/- package limnographref04: Wrap, by the document's sum. -/
namespace Go.Proofs.YtficodklidaheaaDoor
open Go.RowKit
attribute [local go_sem ↓] Go.wp_at_zero Go.wp_at_succ

set_option maxHeartbeats 1000000 in
theorem refStep_any (n : Nat) (hn : n < 4294967296) (w : World) :
    Calls Tryd.prog 110 #[.int .u32 n] w fun e w' => e = .returned (.int .u32 ((stepN n : Nat) : Int)) ∧ w = w' := by
  have e4 : bits .xor .u32 ((n : Int) / 2) 2197175160 = ((n / 2 ^^^ poly : Nat) : Int) := by
    have := xor32 (n / 2) 2197175160 (by omega) (by omega)
    unfold poly
    rw [← this]; simp
  have HS : Hid (stepN n = if n % 2 = 1 then n / 2 ^^^ poly else n / 2) := Lib.hid rfl
  have h0 : (0 : Int) ≤ (n : Int) := by omega
  by_cases h : n % 2 = 1
  · have e5 : (n : Int) % 2 = 1 := by omega
    go_enter Tryd.func110, Tryd.ntmps110
    go_wp2
    go_ret
    exact ⟨by rw [HS.out, if_pos h]; rfl, rfl⟩
  · have e5 : (n : Int) % 2 = 0 := by omega
    go_enter Tryd.func110, Tryd.ntmps110
    go_wp2
    go_ret
    exact ⟨by rw [HS.out, if_neg h]; rfl, rfl⟩

theorem stepsN_snoc (k n : Nat) : stepN (stepsN k n) = stepsN (k + 1) n := (stepsN_add k 1 n).symm

set_option maxHeartbeats 1000000 in
theorem refMore_any (s : Nat) (v : Value) (l : List Nat) (hs : s < 4294967296) (hl : l.length ≤ 1000000000) (w : World) (HB : Row8 w v l) :
    Calls Tryd.prog 106 #[.int .u32 s, v] w fun e w' => e = .returned (.int .u32 ((moreN s l : Nat) : Int)) ∧ w = w' := by
  obtain ⟨ao, c, rfl, hb, hc⟩ := HB
  go_enter Tryd.func106, Tryd.ntmps106
  go_wp2
  go_loopw [0, 5] (fun x t wr => ∃ j : Nat, j ≤ l.length ∧ x = .int .u32 ((moreN s (l.take j) : Nat) : Int) ∧ t = .int .i64 j ∧ w = wr) (fun _ t _ => l.length - (intOf t).toNat)
  case atStart => exact ⟨0, by omega, by simp [moreN], rfl, rfl⟩
  case round =>
    obtain ⟨j, hj, rfl, rfl, rfl⟩ := hrel
    by_cases hd : j < l.length
    · have hd' : (j : Int) < (l.length : Int) := by omega
      have hj0 : (0 : Int) ≤ (j : Int) := by omega
      obtain ⟨a, rfl, hca⟩ := hc j hd
      have hT0 := getD_lt hb hd
      have HT := Lib.hid (takeSucc l j hd)
      have hV0 := moreN_lt s (l.take j) hs (fun x hx => hb x (List.mem_of_mem_take hx))
      obtain ⟨T, hT⟩ : ∃ T, T = l.getD j 0 := ⟨_, rfl⟩
      rw [← hT] at hca hT0 HT
      clear hT hc
      obtain ⟨V, hV⟩ : ∃ V, V = moreN s (l.take j) := ⟨_, rfl⟩
      rw [← hV] at hV0 ⊢
      have HV := Lib.hid hV
      clear hV
      have e1 : IntKind.u32.wrap (T : Int) = (T : Int) := by rw [IntKind.wrap_u32]; omega
      have e2 := xor32 V T hV0 (by omega)
      have hU0 : V ^^^ T < 4294967296 := Nat.xor_lt_two_pow (n := 32) hV0 (by omega)
      go_wp2
      clear e1 e2 hca
      go_loopw [0, 6] (fun x t wr => ∃ k : Nat, k ≤ 8 ∧ x = .int .u32 ((stepsN k (V ^^^ T) : Nat) : Int) ∧ t = .int .i64 k ∧ w = wr) (fun _ t _ => 8 - (intOf t).toNat)
      case atStart => exact ⟨0, by omega, rfl, rfl, rfl⟩
      case round =>
        obtain ⟨k, hk, rfl, rfl, rfl⟩ := hrel
        by_cases hd2 : k < 8
        · have hk' : (k : Int) < 8 := by omega
          have hk0 : (0 : Int) ≤ (k : Int) := by omega
          have hW0 := stepsN_lt k (V ^^^ T) hU0
          have HN4 := Lib.hid (stepsN_snoc k (V ^^^ T))
          obtain ⟨U, hU⟩ : ∃ U, U = stepsN k (V ^^^ T) := ⟨_, rfl⟩
          rw [← hU] at hW0 HN4 ⊢
          clear hU
          go_wp2_with (go_at_call 110; refine (refStep_any U hW0 _).mono ?_; rintro e w' ⟨rfl, rfl⟩)
          go_roundw
          case rel => exact ⟨k + 1, hd2, by rw [HN4.out], by go_num, trivial⟩
          case measure => simp [intOf]; omega
        · obtain rfl : k = 8 := by omega
          go_wp2
          go_roundw
          case rel => exact ⟨j + 1, hd, by rw [HT.out, moreN_snoc, ← HV.out], by go_num, trivial⟩
          case measure => simp [intOf]; omega
    · obtain rfl : j = l.length := by omega
      rw [List.take_length]
      clear hc
      go_wp2
      go_ret
      exact ⟨rfl, rfl⟩

set_option maxHeartbeats 1000000 in
theorem refOf_any (v : Value) (l : List Nat) (hl : l.length ≤ 1000000000) (w : World) (HB : Row8 w v l) :
    Calls Tryd.prog 90 #[v] w fun e w' => e = .returned (.int .u32 ((crcMore 0 l : Nat) : Int)) ∧ w = w' := by
  have hb : ∀ x ∈ l, x < 256 := by obtain ⟨_, _, _, hb, _⟩ := HB; exact hb
  have hM := moreN_lt 4294967295 l (by omega) hb
  have HJ : Hid (crcMore 0 l = 4294967295 - moreN 4294967295 l) := Lib.hid rfl
  have e1 : IntKind.u32.wrap (4294967295 - ((moreN 4294967295 l : Nat) : Int)) = ((4294967295 - moreN 4294967295 l : Nat) : Int) := by rw [IntKind.wrap_u32]; omega
  go_enter Tryd.func90, Tryd.ntmps90
  go_wp2_with (go_at_call 106; refine (refMore_any 4294967295 v l (by omega) hl _ HB).mono ?_; rintro e w' ⟨rfl, rfl⟩)
  go_ret
  exact ⟨by rw [HJ.out]; rfl, rfl⟩

/-- A row of bytes that is answered with no error. -/
def RefWrapped (w : World) (l : List Nat) (e : Ending) (w' : World) : Prop :=
  ∃ c, ∃ g, e = .returned (.tuple #[.slice (some ⟨g, 0, none⟩) (9 + l.length) c, .int .i64 0]) ∧ Row8 w' (.slice (some ⟨g, 0, none⟩) (9 + l.length) c) (frameL l) ∧ Kept (fun _ => False) w w'

set_option maxRecDepth 100000 in
set_option maxHeartbeats 4000000 in
theorem refWrap_any (ao : Option Addr) (c : Nat) (l : List Nat) (hl : l.length ≤ 65536) (w : World) (HB : Row8 w (.slice ao l.length c) l) :
    Calls Tryd.prog 61 #[.slice ao l.length c] w (RefWrapped w l) := by
  have hlb := HB.lt
  have c1 : decide ((65536 : Int) < (l.length : Int)) = false := decide_eq_false (by omega)
  have HF1 := Lib.hid (refFour_any l.length (by omega))
  have HF2 := Lib.hid (refFour_any (sumL l) (sumL_lt l))
  have hsl := sumL_lt l
  have QP : ∀ w', Kept (fun _ => False) w w' → (convert 22 9 (.slice ao l.length c)).run Tryd.prog w' = .ok (.string (strN l)) w' := fun w' hk => conv8 (HB.kept hk)
  have hhl : ∀ x ∈ headL l ++ l, x < 256 := by intro x hx; rcases List.mem_append.1 hx with h | h; exact headL_lt l x h; exact hlb x h
  have hhn : (headL l ++ l).length = 5 + l.length := by rw [List.length_append, headL_len]
  have hfn := frameL_len l
  have HOF := Lib.hid (fun (w' : World) => refOf_any _ (headL l ++ l) (by omega) _ (strBytes_row w' (headL l ++ l) hhl (grownCap w' (headL l ++ l).length 0 5)))
  rw [← sumL_eq, hhn] at HOF
  have QB1 := fun w' => strBytes_run w' (headL l ++ l)
  have QB2 := fun w' => strBytes_run w' (frameL l)
  rw [hhn] at QB1
  rw [hfn] at QB2
  have s0 : (ByteArray.mk #[165]) = strN [165] := by decide
  have A1 : ∀ w, (Op.stringOp .add (ByteArray.mk #[165]) (strN (fourL l.length))).run Tryd.prog w = .ok (.string (strN (headL l))) w := fun w => by
    rw [run_string_add_sum w _ _ (by rw [s0, strN_size, strN_size]; simp [fourL_len]), s0, ← strN_append]; rfl
  have A2 : ∀ w, (Op.stringOp .add (strN (headL l)) (strN l)).run Tryd.prog w = .ok (.string (strN (headL l ++ l))) w := fun w => by
    rw [run_string_add_sum w _ _ (by rw [strN_size, strN_size, headL_len]; omega), ← strN_append]
  have A3 : ∀ w, (Op.stringOp .add (strN (headL l)) (strN (fourL (sumL l)))).run Tryd.prog w = .ok (.string (strN (headL l ++ fourL (sumL l)))) w := fun w => by
    rw [run_string_add_sum w _ _ (by rw [strN_size, strN_size, headL_len, fourL_len]; omega), ← strN_append]
  have A4 : ∀ w, (Op.stringOp .add (strN (headL l ++ fourL (sumL l))) (strN l)).run Tryd.prog w = .ok (.string (strN (frameL l))) w := fun w => by
    rw [run_string_add_sum w _ _ (by rw [strN_size, strN_size, List.length_append, headL_len, fourL_len]; omega), ← strN_append]; rfl
  have HR : Hid (∀ w', Row8 (Lib.bytesWorld w' 5 (strN (frameL l))) (.slice (some ⟨w'.heap.size, 0, none⟩) (9 + l.length) (grownCap w' (9 + l.length) 0 5)) (frameL l)) := Lib.hid fun w' => by
    have := strBytes_row w' (frameL l) (frameL_lt l hlb) (grownCap w' (9 + l.length) 0 5)
    rw [hfn] at this
    exact this
  obtain ⟨N9, hN9⟩ : ∃ N, N = 9 + l.length := ⟨_, rfl⟩
  have HN9 := Lib.hid hN9
  obtain ⟨N5, hN5⟩ : ∃ N, N = 5 + l.length := ⟨_, rfl⟩
  rw [← hN9] at HR QB2
  rw [← hN5] at HOF QB1
  obtain ⟨X0, hX0⟩ : ∃ X, X = strN (fourL l.length) := ⟨_, rfl⟩
  obtain ⟨X1, hX1⟩ : ∃ X, X = strN (headL l) := ⟨_, rfl⟩
  obtain ⟨X2, hX2⟩ : ∃ X, X = strN l := ⟨_, rfl⟩
  obtain ⟨X3, hX3⟩ : ∃ X, X = strN (headL l ++ l) := ⟨_, rfl⟩
  obtain ⟨X4, hX4⟩ : ∃ X, X = strN (fourL (sumL l)) := ⟨_, rfl⟩
  obtain ⟨X5, hX5⟩ : ∃ X, X = strN (headL l ++ fourL (sumL l)) := ⟨_, rfl⟩
  obtain ⟨X6, hX6⟩ : ∃ X, X = strN (frameL l) := ⟨_, rfl⟩
  rw [← hX0] at HF1 A1
  rw [← hX1] at A1 A2 A3
  rw [← hX2] at A2 A4 QP
  rw [← hX3] at A2 QB1 HOF
  rw [← hX4] at HF2 A3
  rw [← hX5] at A3 A4
  rw [← hX6] at A4 QB2 HR
  obtain ⟨SL, hSL⟩ : ∃ s, s = sumL l := ⟨_, rfl⟩
  rw [← hSL] at HF2 HOF hsl
  have e5 : IntKind.i64.wrap (SL : Int) = (SL : Int) := IntWalk.i64_in _ ⟨by omega, by omega⟩
  have HQP := Lib.hid QP
  clear HB hlb hhl hhn hfn s0 hN9 hN5 hX0 hX1 hX2 hX3 hX4 hX5 hX6 hSL QP
  go_enter Tryd.func61, Tryd.ntmps61
  go_wp2_with (go_at_call 89; refine (HF1.out _).mono ?_; rintro e w1 ⟨rfl, hk1⟩; have K1 := Lib.hid hk1; clear hk1)
  refine wp_region_held_drew (S := fun w' => (convert 22 9 (.slice ao l.length c)).run Tryd.prog w' = .ok (.string X2) w') (by kernel_rfl) ?_ (fun hHeld => ?_)
  · exact HQP.out _ K1.out.drew
  refine wpAnyH_take (i := 0) (oi := ({ dst := some 12, op := Op.move (Operand.tmp 4), type := 9, pos := "ref.go:29", after := #[], guard := none } : Oper)) (v := ?v0) rfl (by kernel_rfl) (by kernel_rfl) (by kernel_rfl) (fun _ _ _ h => h) (Or.inl ⟨by rfl, ?hy0⟩) (by assumption) ?r0
  case hy0 =>
    intro w hSw
    try dsimp only at hSw
    go_simp
    try with_reducible rfl
  try simp only [Act.put, List.setIfInBounds_toArray, List.set_cons_zero, List.set_cons_succ]
  refine wpAnyH_take (i := 1) (oi := ({ dst := some 13, op := Op.move (Operand.tmp 4), type := 9, pos := "ref.go:29", after := #[], guard := none } : Oper)) (v := ?v1) rfl (by kernel_rfl) (by kernel_rfl) (by kernel_rfl) (fun _ _ _ h => h) (Or.inl ⟨by rfl, ?hy1⟩) (by assumption) ?r1
  case hy1 =>
    intro w hSw
    try dsimp only at hSw
    go_simp
    try with_reducible rfl
  try simp only [Act.put, List.setIfInBounds_toArray, List.set_cons_zero, List.set_cons_succ]
  refine wpAnyH_take (i := 2) (oi := ({ dst := some 14, op := Op.move (Operand.tmp 0), type := 22, pos := "ref.go:29", after := #[], guard := none } : Oper)) (v := ?v2) rfl (by kernel_rfl) (by kernel_rfl) (by kernel_rfl) (fun _ _ _ h => h) (Or.inl ⟨by rfl, ?hy2⟩) (by assumption) ?r2
  case hy2 =>
    intro w hSw
    try dsimp only at hSw
    go_simp
    try with_reducible rfl
  try simp only [Act.put, List.setIfInBounds_toArray, List.set_cons_zero, List.set_cons_succ]
  refine wpAnyH_take (i := 3) (oi := ({ dst := some 15, op := Op.convert 22 9 (Operand.tmp 14), type := 9, pos := "ref.go:29", after := #[{ on := 2, ground := Ground.data }], guard := none } : Oper)) (v := ?v3) rfl (by kernel_rfl) (by kernel_rfl) (by kernel_rfl) (fun _ _ _ h => h) (Or.inl ⟨by rfl, ?hy3⟩) (by assumption) ?r3
  case hy3 =>
    intro w hSw
    try dsimp only at hSw
    go_simp
    try with_reducible rfl
  try simp only [Act.put, List.setIfInBounds_toArray, List.set_cons_zero, List.set_cons_succ]
  refine wpAnyH_take (i := 4) (oi := ({ dst := some 16, op := Op.binOp BinOp.add 9 (Operand.tmp 13) (Operand.tmp 15) 9, type := 9, pos := "ref.go:29", after := #[{ on := 1, ground := Ground.data }, { on := 3, ground := Ground.data }], guard := none } : Oper)) (v := ?v4) rfl (by kernel_rfl) (by kernel_rfl) (by kernel_rfl) (fun _ _ _ h => h) (Or.inl ⟨by rfl, ?hy4⟩) (by assumption) ?r4
  case hy4 =>
    intro w hSw
    try dsimp only at hSw
    go_simp
    try with_reducible rfl
  try simp only [Act.put, List.setIfInBounds_toArray, List.set_cons_zero, List.set_cons_succ]
  refine wpAnyH_take (i := 10) (oi := ({ dst := some 22, op := Op.move (Operand.tmp 0), type := 22, pos := "ref.go:29", after := #[], guard := none } : Oper)) (v := ?v10) rfl (by kernel_rfl) (by kernel_rfl) (by kernel_rfl) (fun _ _ _ h => h) (Or.inl ⟨by rfl, ?hy10⟩) (by assumption) ?r10
  case hy10 =>
    intro w hSw
    try dsimp only at hSw
    go_simp
    try with_reducible rfl
  try simp only [Act.put, List.setIfInBounds_toArray, List.set_cons_zero, List.set_cons_succ]
  refine wpAnyH_take (i := 11) (oi := ({ dst := some 23, op := Op.convert 22 9 (Operand.tmp 22), type := 9, pos := "ref.go:29", after := #[{ on := 10, ground := Ground.data }], guard := none } : Oper)) (v := ?v11) rfl (by kernel_rfl) (by kernel_rfl) (by kernel_rfl) (fun _ _ _ h => h) (Or.inl ⟨by rfl, ?hy11⟩) (by assumption) ?r11
  case hy11 =>
    intro w hSw
    try dsimp only at hSw
    go_simp
    try with_reducible rfl
  try simp only [Act.put, List.setIfInBounds_toArray, List.set_cons_zero, List.set_cons_succ]
  refine wpAnyH_ready (rs := [5]) (by kernel_rfl) (by simp) ?_
  refine AllReadyH.cons (o := ({ dst := some 17, op := Op.convert 9 22 (Operand.tmp 16), type := 22, pos := "ref.go:29", after := #[{ on := 4, ground := Ground.data }], guard := none } : Oper)) rfl (fun K hK => ?_) AllReadyH.nil
  go_simp
  refine hK.out _ _ ?_ (fun hHeld => ?_)
  · exact HQP.out _ (K1.out.drew.trans (strBytes_kept _ _))
  clear hK K
  try simp only [Act.put, List.setIfInBounds_toArray, List.set_cons_zero, List.set_cons_succ]
  refine wpAnyH_ready (rs := [6]) (by kernel_rfl) (by simp) ?_
  refine AllReadyH.cons (o := ({ dst := some 18, op := Op.call { callee := Callee.value (Operand.func 90), args := #[Operand.tmp 17], argTypes := #[22] }, type := 104, pos := "ref.go:29", after := #[{ on := 5, ground := Ground.data }], guard := none } : Oper)) rfl (fun K hK => ?_) AllReadyH.nil
  go_simp
  go_wp2_with (go_at_call 90; refine (HOF.out _).mono ?_; rintro e w' ⟨rfl, rfl⟩)
  refine hK.out _ _ ?_ (fun hHeld => ?_)
  · exact HQP.out _ (K1.out.drew.trans (strBytes_kept _ _))
  clear hK K
  try simp only [Act.put, List.setIfInBounds_toArray, List.set_cons_zero, List.set_cons_succ]
  refine wpAnyH_take (i := 7) (oi := ({ dst := some 19, op := Op.convert 104 3 (Operand.tmp 18), type := 3, pos := "ref.go:29", after := #[{ on := 6, ground := Ground.data }], guard := none } : Oper)) (v := ?v7) rfl (by kernel_rfl) (by kernel_rfl) (by kernel_rfl) (fun _ _ _ h => h) (Or.inl ⟨by rfl, ?hy7⟩) (by assumption) ?r7
  case hy7 =>
    intro w hSw
    try dsimp only at hSw
    go_simp
    try with_reducible rfl
  try simp only [Act.put, List.setIfInBounds_toArray, List.set_cons_zero, List.set_cons_succ]
  refine wpAnyH_ready (rs := [8]) (by kernel_rfl) (by simp) ?_
  refine AllReadyH.cons (o := ({ dst := some 20, op := Op.call { callee := Callee.value (Operand.func 89), args := #[Operand.tmp 19], argTypes := #[3] }, type := 9, pos := "ref.go:29", after := #[{ on := 7, ground := Ground.data }, { on := 6, ground := Ground.chain }], guard := none } : Oper)) rfl (fun K hK => ?_) AllReadyH.nil
  go_simp
  go_wp2_with (go_at_call 89; refine (HF2.out _).mono ?_; rintro e w3 ⟨rfl, hk3⟩; have K3 := Lib.hid ((K1.out.drew.trans (strBytes_kept _ _)).trans hk3); clear hk3)
  refine hK.out _ _ ?_ (fun hHeld => ?_)
  · exact HQP.out _ K3.out
  clear hK K
  try simp only [Act.put, List.setIfInBounds_toArray, List.set_cons_zero, List.set_cons_succ]
  refine wpAnyH_take (i := 9) (oi := ({ dst := some 21, op := Op.binOp BinOp.add 9 (Operand.tmp 12) (Operand.tmp 20) 9, type := 9, pos := "ref.go:29", after := #[{ on := 0, ground := Ground.data }, { on := 8, ground := Ground.data }], guard := none } : Oper)) (v := ?v9) rfl (by kernel_rfl) (by kernel_rfl) (by kernel_rfl) (fun _ _ _ h => h) (Or.inl ⟨by rfl, ?hy9⟩) (by assumption) ?r9
  case hy9 =>
    intro w hSw
    try dsimp only at hSw
    go_simp
    try with_reducible rfl
  try simp only [Act.put, List.setIfInBounds_toArray, List.set_cons_zero, List.set_cons_succ]
  refine wpAnyH_take (i := 12) (oi := ({ dst := some 24, op := Op.binOp BinOp.add 9 (Operand.tmp 21) (Operand.tmp 23) 9, type := 9, pos := "ref.go:29", after := #[{ on := 9, ground := Ground.data }, { on := 11, ground := Ground.data }], guard := none } : Oper)) (v := ?v12) rfl (by kernel_rfl) (by kernel_rfl) (by kernel_rfl) (fun _ _ _ h => h) (Or.inl ⟨by rfl, ?hy12⟩) (by assumption) ?r12
  case hy12 =>
    intro w hSw
    try dsimp only at hSw
    go_simp
    try with_reducible rfl
  try simp only [Act.put, List.setIfInBounds_toArray, List.set_cons_zero, List.set_cons_succ]
  refine wpAnyH_ready (rs := [13]) (by kernel_rfl) (by simp) ?_
  refine AllReadyH.cons (o := ({ dst := some 25, op := Op.convert 9 22 (Operand.tmp 24), type := 22, pos := "ref.go:29", after := #[{ on := 12, ground := Ground.data }], guard := none } : Oper)) rfl (fun K hK => ?_) AllReadyH.nil
  go_simp
  refine hK.out _ _ ?_ (fun hHeld => ?_)
  · exact HQP.out _ (K3.out.trans (strBytes_kept _ _))
  clear hK K
  try simp only [Act.put, List.setIfInBounds_toArray, List.set_cons_zero, List.set_cons_succ]
  refine wpAnyH_take (i := 14) (oi := ({ dst := some 2, op := Op.assign (Operand.tmp 25), type := 22, pos := "ref.go:29", after := #[{ on := 13, ground := Ground.data }, { on := 8, ground := Ground.chain }, { on := 0, ground := Ground.phase }, { on := 1, ground := Ground.phase }, { on := 2, ground := Ground.phase }, { on := 3, ground := Ground.phase }, { on := 4, ground := Ground.phase }, { on := 5, ground := Ground.phase }, { on := 6, ground := Ground.phase }, { on := 7, ground := Ground.phase }, { on := 8, ground := Ground.phase }, { on := 9, ground := Ground.phase }, { on := 10, ground := Ground.phase }, { on := 11, ground := Ground.phase }, { on := 12, ground := Ground.phase }, { on := 13, ground := Ground.phase }], guard := none } : Oper)) (v := ?v14) rfl (by kernel_rfl) (by kernel_rfl) (by kernel_rfl) (fun _ _ _ h => h) (Or.inl ⟨by rfl, ?hy14⟩) (by assumption) ?r14
  case hy14 =>
    intro w hSw
    try dsimp only at hSw
    go_simp
    try with_reducible rfl
  try simp only [Act.put, List.setIfInBounds_toArray, List.set_cons_zero, List.set_cons_succ]
  refine wpAnyH_take (i := 15) (oi := ({ dst := some 3, op := Op.assign (Operand.const (Value.int IntKind.i64 0)), type := 24, pos := "ref.go:29", after := #[{ on := 14, ground := Ground.chain }, { on := 0, ground := Ground.phase }, { on := 1, ground := Ground.phase }, { on := 2, ground := Ground.phase }, { on := 3, ground := Ground.phase }, { on := 4, ground := Ground.phase }, { on := 5, ground := Ground.phase }, { on := 6, ground := Ground.phase }, { on := 7, ground := Ground.phase }, { on := 8, ground := Ground.phase }, { on := 9, ground := Ground.phase }, { on := 10, ground := Ground.phase }, { on := 11, ground := Ground.phase }, { on := 12, ground := Ground.phase }, { on := 13, ground := Ground.phase }, { on := 14, ground := Ground.phase }], guard := none } : Oper)) (v := ?v15) rfl (by kernel_rfl) (by kernel_rfl) (by kernel_rfl) (fun _ _ _ h => h) (Or.inl ⟨by rfl, ?hy15⟩) (by assumption) ?r15
  case hy15 =>
    intro w hSw
    try dsimp only at hSw
    go_simp
    try with_reducible rfl
  try simp only [Act.put, List.setIfInBounds_toArray, List.set_cons_zero, List.set_cons_succ]
  refine wpAnyH_done (by kernel_rfl) ?_ _
  have HFIN : RefWrapped w l (.returned (.tuple #[.slice (some ⟨w3.heap.size, 0, none⟩) N9 (grownCap w3 N9 0 5), .int .i64 0])) (Lib.bytesWorld w3 5 X6) := by
    unfold RefWrapped
    rw [← HN9.out]
    exact ⟨_, _, rfl, HR.out w3, K3.out.trans (strBytes_kept _ _)⟩
  go_wp2
  go_ret2
  exact HFIN
end Go.Proofs.YtficodklidaheaaDoor
