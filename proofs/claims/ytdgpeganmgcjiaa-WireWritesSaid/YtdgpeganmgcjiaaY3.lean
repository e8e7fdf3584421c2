/- package wire: GetVar. -/
import Derived.Test.YtdgpeganmgcjiaaY2
import Derived.Test.YtdgpeganmgcjiaaG2
namespace Go.Proofs.Ytdgpeganmgcjiaa
open Go.RowKit
attribute [local go_sem ↓] Go.wp_at_zero Go.wp_at_succ

/-- A slice of bytes l, wherever it lies. -/
structure By (w : World) (ao : Option Addr) (c : Nat) (l : List Nat) : Prop where
  at_ : SlAt w (.slice ao l.length c) (bys l)
  cap : l.length ≤ c
  lt : ∀ x ∈ l, x < 256
theorem By.kept {w w' : World} {ao : Option Addr} {c : Nat} {l : List Nat} (h : By w ao c l) (k : Kept (fun _ => False) w w') : By w' ao c l := ⟨h.at_.kept k (fun _ _ x => x), h.cap, h.lt⟩
theorem and127 : ∀ x, x < 256 → x &&& 127 = x % 128 := by decide +kernel
theorem byte_and (u : Nat) (h : u < 256) : bits .and .u8 (u : Int) 127 = ((u % 128 : Nat) : Int) := by
  have := u8_and_nat u 127 (by omega) (by omega)
  rw [and127 u h] at this
  exact this
theorem or_add (a b i : Nat) (h : a < 2 ^ i) : a ||| b * 2 ^ i = a + b * 2 ^ i := by
  rw [Nat.or_comm, Nat.mul_comm, ← Nat.two_pow_add_eq_or_of_lt h]; omega
theorem pow7 (i : Nat) : 128 ^ i = 2 ^ (7 * i) := by rw [Nat.pow_mul]
theorem getD_drop (l : List Nat) (t j : Nat) : (l.drop t).getD j 0 = l.getD (t + j) 0 := by
  simp [List.getD_eq_getElem?_getD, List.getElem?_drop]
theorem gotF_nil (i acc : Nat) : gotF i acc [] = (0, 0, 2) := rfl
theorem gotF_cons (i acc c : Nat) (l : List Nat) : gotF i acc (c :: l) = if i = 9 ∧ 1 < c then (0, 0, 3) else if 128 ≤ c then gotF (i + 1) (acc + (c - 128) * 128 ^ i) l else if c = 0 ∧ 0 < i then (0, 0, 3) else (acc + c * 128 ^ i, i + 1, 0) := rfl

set_option maxHeartbeats 4000000 in
set_option maxRecDepth 100000 in
theorem getVar_any (ao : Option Addr) (c : Nat) (l : List Nat) (w : World) (hb : By w ao c l) (hl : l.length ≤ 100000000000) (t : Nat) (ht : t ≤ l.length) (V N E : Nat) (hg : gotW (l.drop t) = (V, N, E)) :
    Calls Try.prog 18 #[.slice ao l.length c, .int .i64 (t : Int)] w fun e w' => e = .returned (.tuple #[.int .u64 (V : Int), .int .i64 (N : Int), .int .i64 (E : Int)]) ∧ w = w' := by
  obtain ⟨i0, hi, hz0, hz1, hz2⟩ := info_parts Try.infoU8
  have c1 : ∀ w, (Instr.slice 25 (.slice ao l.length c) (some (.int .i64 (t : Int))) none none).run Try.prog w = .ok (.slice (if c = t then ao else ao.map (·.add t)) (l.length - t) (c - t)) w := fun w => run_cutL Try.underlying25 hi hz1 ao l.length c t ht w
  have hcut := hb.at_.cutL (lo := t) ht hb.cap
  have hlt : ∀ x ∈ l.drop t, x < 256 := fun x hx => hb.lt x (List.mem_of_mem_drop hx)
  have hbd : bys (l.drop t) = (bys l).drop t := by simp [bys]
  rw [← hbd] at hcut
  obtain ⟨m, hm⟩ : ∃ m, m = l.drop t := ⟨_, rfl⟩
  have hml : m.length = l.length - t := by rw [hm]; simp
  rw [← hm] at hcut hlt hg
  rw [← hml] at hcut c1
  obtain ⟨bo, hbo⟩ : ∃ bo, bo = (if c = t then ao else ao.map (·.add t)) := ⟨_, rfl⟩
  rw [← hbo] at hcut c1
  obtain ⟨d, hd⟩ : ∃ d, d = c - t := ⟨_, rfl⟩
  rw [← hd] at hcut c1
  have HEL := Lib.hid fun i (hi : i < m.length) => hcut.elem (bys_get hi)
  have HLT := Lib.hid hlt
  have HG : Hid (gotF 0 0 m = (V, N, E)) := Lib.hid hg
  have h0 : (0 : Int) ≤ (t : Int) := by omega
  have h1 : (t : Int) ≤ (l.length : Int) := by omega
  have HML := Lib.hid (show m.length ≤ 100000000000 by omega)
  clear hb hl ht hg hcut hlt hbd hm hml hbo hd
  go_enter Try.func18, Try.ntmps18
  go_wp2
  go_loopg [4, 7, 8, 21] m.length (fun g s4 s7 s8 s21 wr => ∃ i acc : Nat, i ≤ m.length ∧ g = m.length - i ∧ i ≤ 9 ∧ s21 = .int .i64 (i : Int) ∧ s4 = .int .u64 (acc : Int) ∧ acc < 128 ^ i ∧ gotF i acc (m.drop i) = (V, N, E) ∧ w = wr)
  case atStart => exact ⟨0, 0, Nat.zero_le _, rfl, by omega, rfl, rfl, by simp, HG.out, rfl⟩
  case round =>
    obtain ⟨i, acc, him, rfl, hi9, rfl, rfl, hacc, hgo, rfl⟩ := hrel
    by_cases hil : i < m.length
    · obtain ⟨g, off, rfl, hcell⟩ := HEL.out i hil
      obtain ⟨C, hC⟩ : ∃ C, C = m.getD i 0 := ⟨_, rfl⟩
      have hc256 : C < 256 := by
        rw [hC, List.getD_eq_getElem?_getD, List.getElem?_eq_getElem hil]; exact HLT.out _ (List.getElem_mem hil)
      have hdr : m.drop i = C :: m.drop (i + 1) := by
        rw [List.drop_eq_getElem_cons hil, hC, List.getD_eq_getElem?_getD, List.getElem?_eq_getElem hil]; rfl
      rw [← hC] at hcell
      rw [hdr, gotF_cons] at hgo
      have hin : (0 : Int) ≤ (i : Int) := by omega
      have hin2 : (i : Int) < (m.length : Int) := by omega
      have band := byte_and C hc256
      clear hdr hC
      by_cases hA : i = 9 ∧ 1 < C
      · rw [if_pos hA] at hgo
        have q1 : i = 9 := hA.1
        have q2 : (1 : Int) < (C : Int) := by omega
        subst q1
        have HGO := Lib.hid hgo
        clear hgo hA hacc hi9
        go_wp2
        go_ret3
        have h := HGO.out
        simp at h
        obtain ⟨rfl, rfl, rfl⟩ := h
        exact ⟨rfl, rfl⟩
      · rw [if_neg hA] at hgo
        have hcase : (((i : Int) == 9) = false) ∨ (((i : Int) == 9) = true ∧ ¬ (1 : Int) < (C : Int)) := by
          by_cases h9 : i = 9
          · exact .inr ⟨by simp; omega, by omega⟩
          · left; simp; omega
        have hw7 : IntKind.i64.wrap (7 * (i : Int)) = ((7 * i : Nat) : Int) := by rw [IntWalk.i64_in _ ⟨by omega, by omega⟩]; omega
        have hpos : 0 < 128 ^ i := Nat.pow_pos (by omega)
        have hbig : 128 ^ i * 128 ≤ 128 ^ 10 := by rw [← Nat.pow_succ]; exact Nat.pow_le_pow_right (by omega) (by omega)
        have hval : acc + C % 128 * 128 ^ i < 18446744073709551616 := by
          by_cases h9 : i = 9
          · subst h9
            have : C % 128 ≤ 1 := by omega
            have := Nat.mul_le_mul_right (128 ^ 9) this
            rw [p18]; omega
          · have h8 : 128 ^ i * 128 ≤ 128 ^ 9 := by rw [← Nat.pow_succ]; exact Nat.pow_le_pow_right (by omega) (by omega)
            have h7 : (C % 128 + 1) * 128 ^ i ≤ 128 * 128 ^ i := Nat.mul_le_mul_right _ (by omega)
            rw [Nat.add_mul, Nat.one_mul] at h7
            rw [p18]; rw [Nat.mul_comm] at h8; omega
        have hsh : IntKind.u64.wrap (IntKind.u64.wrap ((C % 128 : Nat) : Int) * 2 ^ min (7 * i) 64) = ((C % 128 * 128 ^ i : Nat) : Int) := by
          rw [show IntKind.u64.wrap ((C % 128 : Nat) : Int) = ((C % 128 : Nat) : Int) by rw [IntKind.wrap_u64]; omega, Nat.min_eq_left (by omega)]
          rw [show ((C % 128 : Nat) : Int) * 2 ^ (7 * i) = ((C % 128 * 128 ^ i : Nat) : Int) by rw [pow7]; simp]
          rw [IntKind.wrap_u64]; omega
        have hsh2 : IntKind.u64.wrap (IntKind.u64.wrap ((C % 128 : Nat) : Int) * 2 ^ (7 * i)) = ((C % 128 * 128 ^ i : Nat) : Int) := by
          have h := hsh
          rw [Nat.min_eq_left (by omega)] at h
          exact h
        have hor : bits .or .u64 (acc : Int) ((C % 128 * 128 ^ i : Nat) : Int) = ((acc + C % 128 * 128 ^ i : Nat) : Int) := by
          rw [u64_or_nat _ _ (by omega) (by omega), pow7, or_add _ _ _ (by rw [← pow7]; exact hacc)]
        by_cases hB : 128 ≤ C
        · rw [if_pos hB] at hgo
          have h9 : i ≠ 9 := by omega
          have q1 : ((i : Int) == 9) = false := by simp; omega
          have q2 : (128 : Int) ≤ (C : Int) := by omega
          have HR := Lib.hid (show acc + C % 128 * 128 ^ i < 128 ^ (i + 1) by
            have h7 : (C % 128 + 1) * 128 ^ i ≤ 128 * 128 ^ i := Nat.mul_le_mul_right _ (by omega)
            rw [Nat.add_mul, Nat.one_mul] at h7
            rw [Nat.pow_succ, Nat.mul_comm _ 128]; omega)
          rw [show C - 128 = C % 128 by omega] at hgo
          have HGO := Lib.hid hgo
          have H9 := Lib.hid (And.intro hi9 h9)
          obtain ⟨A, hA2⟩ : ∃ A, A = acc + C % 128 * 128 ^ i := ⟨_, rfl⟩
          obtain ⟨B, hB2⟩ : ∃ B, B = C % 128 * 128 ^ i := ⟨_, rfl⟩
          obtain ⟨C7, hC7⟩ : ∃ B, B = C % 128 := ⟨_, rfl⟩
          rw [← hA2, ← hB2] at hor
          rw [← hB2, ← hC7] at hsh hsh2
          rw [← hC7] at band
          rw [← hA2] at HR HGO
          obtain ⟨S7, hS7⟩ : ∃ S, S = 7 * i := ⟨_, rfl⟩
          rw [← hS7] at hw7 hsh hsh2
          have s0 : (0 : Int) ≤ (S7 : Int) := by omega
          have HIL := Lib.hid hil
          clear hgo hA hacc hi9 h9 hcase hpos hbig hval hA2 hB2 hC7 hS7 hB him hil
          go_wp2
          go_roundg (m.length - (i + 1))
          case measure => have := HIL.out; omega
          case rel => exact ⟨i + 1, A, HIL.out, rfl, by have := H9.out; omega, by have := H9.out; refine congrArg _ ((IntWalk.wrap64_in _ ⟨by omega, by omega⟩).trans ?_); omega, rfl, HR.out, HGO.out, rfl⟩
        · rw [if_neg hB] at hgo
          have q2 : ¬ (128 : Int) ≤ (C : Int) := by omega
          have HIL := Lib.hid hil
          obtain ⟨A, hA2⟩ : ∃ A, A = acc + C % 128 * 128 ^ i := ⟨_, rfl⟩
          have hA3 : acc + C * 128 ^ i = A := by rw [hA2, Nat.mod_eq_of_lt (by omega)]
          rw [hA3] at hgo
          have hA4 : A < 18446744073709551616 := by omega
          obtain ⟨B, hB2⟩ : ∃ B, B = C % 128 * 128 ^ i := ⟨_, rfl⟩
          obtain ⟨C7, hC7⟩ : ∃ B, B = C % 128 := ⟨_, rfl⟩
          rw [← hA2, ← hB2] at hor
          rw [← hB2, ← hC7] at hsh hsh2
          rw [← hC7] at band
          obtain ⟨S7, hS7⟩ : ∃ S, S = 7 * i := ⟨_, rfl⟩
          rw [← hS7] at hw7 hsh hsh2
          have s0 : (0 : Int) ≤ (S7 : Int) := by omega
          have hcase2 : (((C : Int) == 0) = true ∧ (0 : Int) < (i : Int) ∧ (V, N, E) = (0, 0, 3)) ∨ ((((C : Int) == 0) = false ∨ ((C : Int) == 0) = true ∧ ¬ (0 : Int) < (i : Int)) ∧ (V, N, E) = (A, i + 1, 0)) := by
            by_cases h3 : C = 0 ∧ 0 < i
            · rw [if_pos h3] at hgo; exact .inl ⟨by simp; omega, by omega, hgo.symm⟩
            · rw [if_neg h3] at hgo
              refine .inr ⟨?_, hgo.symm⟩
              by_cases h4 : C = 0
              · exact .inr ⟨by simp; omega, by omega⟩
              · left; simp; omega
          have hi1 : IntKind.i64.wrap ((i : Int) + 1) = ((i + 1 : Nat) : Int) := by rw [IntWalk.i64_in _ ⟨by omega, by omega⟩]; omega
          clear hgo hA hacc hi9 hpos hbig hval hA2 hA3 hB2 hC7 hS7 hB him hil
          rcases hcase with p1 | ⟨p1, p2⟩ <;> rcases hcase2 with ⟨r1, r2, hR⟩ | ⟨r1 | ⟨r1, r2⟩, hR⟩ <;> have HR := Lib.hid hR <;> clear hR <;>
          · go_wp2
            go_ret3
            have h := HR.out
            simp at h
            obtain ⟨rfl, rfl, rfl⟩ := h
            exact ⟨rfl, rfl⟩
    · have hie : i = m.length := by omega
      have hq : ¬ (i : Int) < (m.length : Int) := by omega
      rw [hie, List.drop_length, gotF_nil] at hgo
      have HGO := Lib.hid hgo
      clear hgo hacc hi9 hil him hie
      go_wp2
      go_ret3
      have h := HGO.out
      simp at h
      obtain ⟨rfl, rfl, rfl⟩ := h
      exact ⟨rfl, rfl⟩
end Go.Proofs.Ytdgpeganmgcjiaa
