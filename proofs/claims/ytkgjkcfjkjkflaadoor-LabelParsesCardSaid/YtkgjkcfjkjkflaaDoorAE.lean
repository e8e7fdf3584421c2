/- Layer 11: strings.Index, Count, Split and Cut at a text of one byte. -/
import Derived.Test.YtkgjkcfjkjkflaaDoorAD
import Derived.Lib.Bytealg
import Derived.Lib.Strings
import Derived.BigCall
import Derived.BigGuard
namespace Go.Proofs.YtkgjkcfjkjkflaaDoor
open Go.RowKit
attribute [local go_sem ↓] Go.wp_at_zero Go.wp_at_succ

/-- Where a byte is first; -1: nowhere. -/
def ixB (s : ByteArray) (c : UInt8) : Int := Lib.indexByte s.toList c
theorem ixB_cases (s : ByteArray) (c : UInt8) : ixB s c = -1 ∨ ∃ o : Nat, ixB s c = o ∧ o < s.size := by
  have key : ∀ l : List UInt8, Lib.indexByte l c = -1 ∨ ∃ o : Nat, Lib.indexByte l c = o ∧ o < l.length := by
    intro l
    induction l with
    | nil => exact .inl rfl
    | cons b l ih =>
      unfold Lib.indexByte
      by_cases hb : (b == c) = true
      · rw [if_pos hb]; exact .inr ⟨0, rfl, by simp⟩
      · rw [if_neg hb]
        rcases ih with h | ⟨o, h, ho⟩
        · rw [h]; exact .inl rfl
        · rw [h, if_neg (by simp)]
          exact .inr ⟨o + 1, by simp, by simp; omega⟩
  have := key s.toList
  rw [toList_size] at this
  exact this
set_option maxHeartbeats 1000000 in
theorem indexByte_any (s : ByteArray) (c : UInt8) (w : World) :
    Calls Tryd.prog 55 #[.string s, .int .u8 (c.toNat : Int)] w fun e w' => e = .returned (.int .i64 (ixB s c)) ∧ w = w' := by
  have hc : ((c.toNat : Int)).toNat.toUInt8 = c := by simp
  go_enter Tryd.func55, Tryd.ntmps55
  go_wp2
  rw [run_callFunc_extern Tryd.func59 (by kernel_rfl) (by kernel_rfl) (by kernel_rfl) (e := Extern.BytealgIndexByte.indexByte) (by kernel_rfl), Lib.run_indexByteString]
  simp only [Result.andThen]
  rw [Oper.upon_value]
  go_wp2
  go_ret
  exact ⟨by unfold ixB; rw [ByteArray.toList_eq]; rfl, rfl⟩
set_option maxHeartbeats 1000000 in
theorem index1_any (s : ByteArray) (c : UInt8) (w : World) :
    Calls Tryd.prog 52 #[.string s, .string { data := #[c] }] w fun e w' => e = .returned (.int .i64 (ixB s c)) ∧ w = w' := by
  have HI := Lib.hid (indexByte_any s c)
  cases hb : ([c] == s.toList) with
  | true =>
    have h1 : s.toList = [c] := (beq_iff_eq.1 hb).symm
    have HX : Hid (ixB s c = 0) := Lib.hid (by unfold ixB; rw [h1]; simp [Lib.indexByte])
    clear h1
    go_enter Tryd.func52, Tryd.ntmps52
    go_wp2
    go_ret
    exact ⟨by rw [HX.out]; rfl, rfl⟩
  | false =>
    go_enter Tryd.func52, Tryd.ntmps52
    go_wp2_with fail
    refine (HI.out _).mono ?_
    rintro e w' ⟨rfl, rfl⟩
    go_wp2
    go_ret
    exact ⟨rfl, rfl⟩
theorem sindex1_any (s : ByteArray) (c : UInt8) (w : World) :
    Calls Tryd.prog 46 #[.string s, .string { data := #[c] }] w fun e w' => e = .returned (.int .i64 (ixB s c)) ∧ w = w' := by
  have HI := Lib.hid (index1_any s c)
  go_enter Tryd.func46, Tryd.ntmps46
  go_wp2_with fail
  refine (HI.out _).mono ?_
  rintro e w' ⟨rfl, rfl⟩
  go_wp2
  go_ret
  exact ⟨rfl, rfl⟩
set_option maxHeartbeats 1000000 in
theorem count1_any (s : ByteArray) (c : UInt8) (w : World) :
    Calls Tryd.prog 45 #[.string s, .string { data := #[c] }] w fun e w' => e = .returned (.int .i64 ((s.toList.count c : Nat) : Int)) ∧ w = w' := by
  have hc : ((c.toNat : Int)).toNat.toUInt8 = c := by simp
  go_enter Tryd.func45, Tryd.ntmps45
  go_wp2
  rw [run_callFunc_extern Tryd.func51 (by kernel_rfl) (by kernel_rfl) (by kernel_rfl) (e := Extern.BytealgCount.count) (by kernel_rfl), Lib.run_countString]
  simp only [Result.andThen]
  rw [Oper.upon_value]
  go_wp2
  go_ret
  exact ⟨by rw [ByteArray.toList_eq]; rfl, rfl⟩
/-- A text cut at the first such byte: what is ahead, what is behind, and whether there is one. -/
def cutS (s : ByteArray) (c : UInt8) : ByteArray × ByteArray × Bool := if ixB s c = -1 then (s, ByteArray.empty, false) else (s.extract 0 (ixB s c).toNat, s.extract ((ixB s c).toNat + 1) s.size, true)
theorem bytes_extract_len (s : ByteArray) (i : Nat) : (s.extract (i + 1) s.size).size = s.size - (i + 1) := by
  simp [ByteArray.size_extract]
set_option maxHeartbeats 2000000 in
theorem cut1_any (s : ByteArray) (c : UInt8) (w : World) (hs : s.size ≤ 1000000) :
    Calls Tryd.prog 47 #[.string s, .string { data := #[c] }] w fun e w' => e = .returned (.tuple #[.string (cutS s c).1, .string (cutS s c).2.1, .bool (cutS s c).2.2]) ∧ Kept (fun _ => False) w w' := by
  have HI := Lib.hid (index1_any s c)
  rcases ixB_cases s c with h | ⟨o, h, ho⟩
  · have HX : Hid (cutS s c = (s, ByteArray.empty, false)) := Lib.hid (by unfold cutS; rw [if_pos h])
    rw [h] at HI
    clear h hs
    go_enter Tryd.func47, Tryd.ntmps47
    go_wp2_with fail
    refine (HI.out _).mono ?_
    rintro e w' ⟨rfl, rfl⟩
    go_wp2
    go_ret3
    exact ⟨by rw [HX.out]; rfl, Kept.refl _ _⟩
  · have HX : Hid (cutS s c = (s.extract 0 o, s.extract (o + 1) s.size, true)) := Lib.hid (by unfold cutS; rw [if_neg (by omega), h]; rfl)
    rw [h] at HI
    have w1 : IntKind.i64.wrap ((o : Int) + 1) = ((o + 1 : Nat) : Int) := by rw [IntWalk.i64_in _ ⟨by omega, by omega⟩]; omega
    have c1 : ∀ w, (Instr.slice 9 (.string s) none (some (.int .i64 (o : Int))) none).run Tryd.prog w = .ok (.string (s.extract 0 o)) w := fun w => by
      have := run_slice_string_h (P := Tryd.prog) w 9 s Tryd.underlying9 .i64 (o : Int) (by omega) (by omega); simpa using this
    have c2 : ∀ w, (Instr.slice 9 (.string s) (some (.int .i64 ((o + 1 : Nat) : Int))) none none).run Tryd.prog w = .ok (.string (s.extract (o + 1) s.size)) w := fun w => by
      have := run_slice_string_l (P := Tryd.prog) w 9 s Tryd.underlying9 .i64 ((o + 1 : Nat) : Int) (by omega) (by omega); simpa using this
    have ho0 : (0 : Int) ≤ (o : Int) := by omega
    obtain ⟨o1, ho1⟩ : ∃ k, k = o + 1 := ⟨_, rfl⟩
    rw [← ho1] at w1 c2 HX
    obtain ⟨A, hA⟩ : ∃ a, a = s.extract 0 o := ⟨_, rfl⟩
    obtain ⟨B, hB⟩ : ∃ a, a = s.extract o1 s.size := ⟨_, rfl⟩
    rw [← hA] at c1 HX
    rw [← hB] at c2 HX
    clear h hs ho ho1 hA hB
    go_enter Tryd.func47, Tryd.ntmps47
    go_wp2_with fail
    refine (HI.out _).mono ?_
    rintro e w' ⟨rfl, rfl⟩
    go_upto_region 3 with fail
    have kd : Kept (fun _ => False) w w.drew := (Kept.refl _ w).drew
    go_region
    all_goals
      go_wp2
      go_ret3
      exact ⟨by rw [HX.out]; rfl, kd⟩
end Go.Proofs.YtkgjkcfjkjkflaaDoor
