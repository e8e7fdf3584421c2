/- package glob, layer 32: byteOf, endOf, thing. -/
import Derived.Test.YtjbjfdmdicfjfaaD1
namespace Go.Proofs.Ytjbjfdmdicfjfaa
open Go.RowKit
attribute [local go_sem ↓] Go.wp_at_zero Go.wp_at_succ

theorem run_from {P : Program} {t : TypeId} (h : P.underlying t = some .string) (s : ByteArray) (i : Nat) (hi : i ≤ s.size) (w : World) : (Instr.slice t (.string s) (some (.int .i64 (i : Int))) none none).run P w = .ok (.string (s.extract i s.size)) w := by
  have := run_slice_string_l (P := P) w t s h .i64 (i : Int) (by omega) (by omega); simpa using this
theorem run_part {P : Program} {t : TypeId} (h : P.underlying t = some .string) (s : ByteArray) (i j : Nat) (hi : i ≤ j) (hj : j ≤ s.size) (w : World) : (Instr.slice t (.string s) (some (.int .i64 (i : Int))) (some (.int .i64 (j : Int))) none).run P w = .ok (.string (s.extract i j)) w := by
  have := run_slice_string (P := P) w t s .i64 .i64 (i : Int) (j : Int) h (by omega) (by omega) (by omega); simpa using this

theorem byteOf_any (s : ByteArray) (w : World) (h0 : 0 < s.size) (hs : s.size ≤ 9223372036854775807) :
    Calls Try.prog 22 #[.string s] w fun e w' => e = .returned (.tuple #[.int .u8 ((byteL (bl s)).1 : Int), .int .i64 ((byteL (bl s)).2 : Int)]) ∧ w = w' := by
  have hS0 : ∀ w, (Instr.index 9 (.string s) (.int .i64 0)).run Try.prog w = .ok (.int .u8 (chr s 0 : Int)) w := fun w => run_chr Try.underlying9 s 0 h0 w
  by_cases hc : chr s 0 = 92
  · rw [hc] at hS0
    by_cases h1 : s.size = 1
    · have HX : Hid (byteL (bl s) = (0, 2)) := Lib.hid (by unfold byteL; rw [bl_getD, if_pos hc, bl_length, if_pos h1])
      have q : ((s.size : Int) == 1) = true := by simp [h1]
      have q' : (s.size == 1) = true := by simp [h1]
      clear hc h0 hs h1
      go_enter Try.func22, Try.ntmps22
      go_wp2
      go_ret2
      exact ⟨by rw [HX.out]; rfl, rfl⟩
    · have HX : Hid (byteL (bl s) = (chr s 1, 2)) := Lib.hid (by unfold byteL; rw [bl_getD, if_pos hc, bl_length, if_neg h1, bl_getD])
      have hS1 : ∀ w, (Instr.index 9 (.string s) (.int .i64 1)).run Try.prog w = .ok (.int .u8 (chr s 1 : Int)) w := fun w => run_chr Try.underlying9 s 1 (by omega) w
      have q : ((s.size : Int) == 1) = false := by simp; omega
      have q' : (s.size == 1) = false := by simp; omega
      obtain ⟨c1, hc1⟩ : ∃ c, c = chr s 1 := ⟨_, rfl⟩
      rw [← hc1] at HX hS1
      clear hc h0 hs h1 hc1
      go_enter Try.func22, Try.ntmps22
      go_wp2
      go_ret2
      exact ⟨by rw [HX.out]; rfl, rfl⟩
  · have HX : Hid (byteL (bl s) = (chr s 0, 1)) := Lib.hid (by unfold byteL; rw [bl_getD, if_neg hc])
    obtain ⟨c0, hc0⟩ : ∃ c, c = chr s 0 := ⟨_, rfl⟩
    rw [← hc0] at HX hS0 hc
    have q : ((c0 : Int) == 92) = false := by simp; omega
    have q' : (c0 == 92) = false := by simp [hc]
    clear h0 hs hc0
    go_enter Try.func22, Try.ntmps22
    go_wp2
    go_ret2
    exact ⟨by rw [HX.out]; rfl, rfl⟩
theorem endL_hit {l : List Nat} {i : Nat} (hi : i < l.length) (hc : l.getD i 0 = 93) : endL (l.drop i) = some 0 := by
  rw [drop_cons hi, endL.eq_def]
  dsimp only
  rw [if_pos hc]
theorem endL_go {l : List Nat} {i : Nat} (hi : i < l.length) (hc : l.getD i 0 ≠ 93) : endL (l.drop i) = (endL (l.drop (i + (byteL (l.drop i)).2))).map (· + (byteL (l.drop i)).2) := by
  have hg : (l.drop i).getD 0 0 = l.getD i 0 := by rw [List.getD_eq_getElem?_getD, List.getElem?_drop, Nat.add_zero, List.getD_eq_getElem?_getD]
  by_cases h2 : l.getD i 0 = 92
  · have hb : (byteL (l.drop i)).2 = 2 := by unfold byteL; rw [hg, if_pos h2]; split <;> rfl
    rw [hb, drop_cons hi, endL.eq_def]
    dsimp only
    rw [if_neg hc, if_pos h2]
    by_cases h3 : i + 1 < l.length
    · rw [drop_cons h3]
    · rw [List.drop_eq_nil_of_le (show l.length ≤ i + 1 by omega), List.drop_eq_nil_of_le (show l.length ≤ i + 2 by omega)]
      rfl
  · have hb : (byteL (l.drop i)).2 = 1 := by unfold byteL; rw [hg, if_neg h2]
    rw [hb, drop_cons hi]
    conv => lhs; rw [endL.eq_def]
    dsimp only
    rw [if_neg hc, if_neg h2]
/-- What endOf answers. -/
def EndR (l : List Nat) (x : Int) (b : Bool) : Prop := (∃ n, endL (l.drop 1) = some n ∧ x = ((1 + n : Nat) : Int) ∧ b = true) ∨ (endL (l.drop 1) = none ∧ b = false)
def EndTo (l : List Nat) (e : Ending) : Prop := ∃ x b, e = .returned (.tuple #[.int .i64 x, .bool b]) ∧ EndR l x b
set_option maxHeartbeats 2000000 in
theorem endOf_any (s : ByteArray) (w : World) (h0 : 0 < s.size) (hs : s.size ≤ 1000000) :
    Calls Try.prog 27 #[.string s] w fun e w' => EndTo (bl s) e ∧ w = w' := by
  have HS := Lib.hid (fun i (hi : i < s.size) w => run_chr Try.underlying9 s i hi w)
  have HF := Lib.hid (fun i (hi : i ≤ s.size) w => run_from Try.underlying9 s i hi w)
  have HB := Lib.hid (fun i (hi : i < s.size) w => byteOf_any (s.extract i s.size) w (by rw [size_from]; omega) (by rw [size_from]; omega))
  have HSZ := Lib.hid (And.intro h0 hs)
  have HL := Lib.hid (bl_length s)
  clear h0 hs
  go_enter Try.func27, Try.ntmps27
  go_wp2
  go_loopg [4] s.size (fun g s4 wr => ∃ i : Nat, i ≤ s.size + 1 ∧ g = s.size + 1 - i ∧ s4 = .int .i64 i ∧ w = wr ∧ 1 ≤ i ∧ endL ((bl s).drop 1) = (endL ((bl s).drop i)).map (· + (i - 1)))
  case atStart => exact ⟨1, by omega, by omega, rfl, rfl, Nat.le_refl _, by simp⟩
  case round =>
    obtain ⟨i, hin, rfl, rfl, rfl, hi1, hE⟩ := hrel
    have HE := Lib.hid hE
    have HI := Lib.hid (And.intro hi1 hin)
    clear hE
    by_cases hd : i < s.size
    · have hdi : (i : Int) < (s.size : Int) := by omega
      have hi0 : (0 : Int) ≤ (i : Int) := by omega
      have hix := HS.out i (by omega)
      have hcut := HF.out i (by omega)
      have HBI := Lib.hid (HB.out i (by omega))
      have HD := Lib.hid hd
      by_cases hc : chr s i = 93
      · rw [hc] at hix
        have HR := Lib.hid (show EndR (bl s) (i : Int) true from .inl ⟨i - 1, by rw [HE.out, endL_hit (by have := HL.out; omega) (by rw [bl_getD, hc])]; simp, by have := HI.out; omega, rfl⟩)
        clear hc hd hin hi1 hcut
        go_wp2
        go_ret2
        exact ⟨⟨_, _, rfl, HR.out⟩, rfl⟩
      · have hg := endL_go (l := bl s) (i := i) (by have := HL.out; omega) (by rw [bl_getD]; exact hc)
        rw [bl_from] at HBI
        have hpos := byteL_pos ((bl s).drop i)
        obtain ⟨cn, hcn⟩ : ∃ p, p = byteL ((bl s).drop i) := ⟨_, rfl⟩
        rw [← hcn] at HBI hg hpos
        obtain ⟨c1, k⟩ := cn
        simp only at HBI hg hpos
        obtain ⟨c, hcc⟩ : ∃ c, c = chr s i := ⟨_, rfl⟩
        rw [← hcc] at hix hc
        have q : ((c : Int) == 93) = false := by simp; omega
        have q' : (c == 93) = false := by simp [hc]
        obtain ⟨t, ht⟩ : ∃ t, t = s.extract i s.size := ⟨_, rfl⟩
        rw [← ht] at hcut HBI
        have HG := Lib.hid hg
        have HP := Lib.hid hpos
        have wi : IntKind.i64.wrap ((i : Int) + (k : Int)) = ((i + k : Nat) : Int) := by rw [IntWalk.i64_in _ ⟨by omega, by have := HSZ.out; omega⟩]; omega
        clear hc hcc hcn hg hpos ht hd hin hi1
        go_wp2_with fail
        refine (HBI.out _).mono ?_
        rintro e w' ⟨rfl, rfl⟩
        go_wp2
        go_roundg (s.size + 1 - (i + k))
        case measure => have := HD.out; have := HP.out; omega
        case rel =>
          refine ⟨i + k, by have := HD.out; have := HP.out; omega, rfl, rfl, rfl, by have := HI.out; omega, ?_⟩
          rw [HE.out, HG.out, Option.map_map]
          congr 1
          funext x
          have := HI.out
          simp only [Function.comp]
          omega
    · have hdi : ¬ (i : Int) < (s.size : Int) := by omega
      have HR := Lib.hid (show EndR (bl s) (i : Int) false from .inr ⟨by rw [HE.out, List.drop_eq_nil_of_le (by have := HL.out; omega)]; rfl, rfl⟩)
      clear hd hin hi1
      go_wp2
      go_ret2
      exact ⟨⟨_, _, rfl, HR.out⟩, rfl⟩
end Go.Proofs.Ytjbjfdmdicfjfaa
