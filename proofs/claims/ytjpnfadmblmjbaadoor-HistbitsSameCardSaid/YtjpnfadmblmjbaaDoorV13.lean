/- package vary: way, putWay. -/
import Derived.Test.YtjpnfadmblmjbaaDoorV12
namespace Go.Proofs.YtjpnfadmblmjbaaDoor
open Go.RowKit
attribute [local go_sem ↓] Go.wp_at_zero Go.wp_at_succ

theorem wayN_cases (d : Int) : (wayN d = 0 ∧ d = 0) ∨ (wayN d = 1 ∧ d ≠ 0 ∧ -32 ≤ d ∧ d < 32) ∨ (wayN d = 2 ∧ ¬ (-32 ≤ d ∧ d < 32) ∧ -512 ≤ d ∧ d < 512) ∨ (wayN d = 3 ∧ ¬ (-512 ≤ d ∧ d < 512) ∧ -32768 ≤ d ∧ d < 32768) ∨ (wayN d = 4 ∧ ¬ (-32768 ≤ d ∧ d < 32768)) := by
  unfold wayN
  by_cases h0 : d = 0
  · rw [if_pos h0]; omega
  · rw [if_neg h0]
    by_cases h1 : -32 ≤ d ∧ d < 32
    · rw [if_pos h1]; omega
    · rw [if_neg h1]
      by_cases h2 : -512 ≤ d ∧ d < 512
      · rw [if_pos h2]; omega
      · rw [if_neg h2]
        by_cases h3 : -32768 ≤ d ∧ d < 32768
        · rw [if_pos h3]; omega
        · rw [if_neg h3]; omega
theorem cut_fits (d : Int) (h0 : -9223372036854775808 ≤ d) (h1 : d ≤ 9223372036854775807) :
    (cutI (uN d) 6 = d ↔ -32 ≤ d ∧ d < 32) ∧ (cutI (uN d) 10 = d ↔ -512 ≤ d ∧ d < 512) ∧ (cutI (uN d) 16 = d ↔ -32768 ≤ d ∧ d < 32768) ∧ cutI (uN d) 64 = d := by
  have hu := uN_u64 d
  rw [IntKind.wrap_u64] at hu
  generalize uN d = U at *
  refine ⟨?_, ?_, ?_, ?_⟩
  all_goals
    unfold cutI
    rw [if_neg (by omega)]
    simp only [Nat.reducePow, Nat.reduceSub]
    split <;> omega
/-- Which way serves a difference. -/
theorem cut_way (d : Int) (h0 : -9223372036854775808 ≤ d) (h1 : d ≤ 9223372036854775807) (k : Nat) (hk : k < 4) (hl : k ≤ wayN d) : (cutI (uN d) (widthW.getD k 0) != d) = decide (k < wayN d) := by
  have hkk : k = 0 ∨ k = 1 ∨ k = 2 ∨ k = 3 := by omega
  have hw := wayN_cases d
  obtain ⟨f1, f2, f3, _⟩ := cut_fits d h0 h1
  rw [Bool.eq_iff_iff, bne_iff_ne, decide_eq_true_iff]
  rcases hkk with rfl | rfl | rfl | rfl
  · show (0 : Int) ≠ d ↔ _
    omega
  · show cutI (uN d) 6 ≠ d ↔ _
    rw [Ne, f1]; omega
  · show cutI (uN d) 10 ≠ d ↔ _
    rw [Ne, f2]; omega
  · show cutI (uN d) 16 ≠ d ↔ _
    rw [Ne, f3]; omega

/-- The program's table of the ways. -/
def WayTab (w : World) : Prop := ∀ j, j < 5 → w.cell? ⟨1, j, none⟩ = some (.int .i64 ((widthW.getD j 0 : Nat) : Int))
theorem WayTab.kept {w w' : World} (h : WayTab w) (hk : Kept (fun _ => False) w w') : WayTab w' := fun j hj => hk.cell (h j hj) fun x => x
theorem width_cases (k : Nat) (hk : k < 5) : widthW.getD k 0 = 0 ∨ widthW.getD k 0 = 6 ∨ widthW.getD k 0 = 10 ∨ widthW.getD k 0 = 16 ∨ widthW.getD k 0 = 64 := by
  have : k = 0 ∨ k = 1 ∨ k = 2 ∨ k = 3 ∨ k = 4 := by omega
  rcases this with rfl | rfl | rfl | rfl | rfl <;> simp [widthW]

set_option maxHeartbeats 1000000 in
theorem way_any (d : Int) (h0 : -9223372036854775808 ≤ d) (h1 : d ≤ 9223372036854775807) (w : World) (HT : WayTab w) :
    Calls Tryd.prog 82 #[.int .i64 d] w fun e w' => e = .returned (.int .i64 ((wayN d : Nat) : Int)) ∧ w = w' := by
  have HU := uN_u64 d
  have hul := uN_lt d
  have HW := Lib.hid (cut_way d h0 h1)
  have HT' := Lib.hid HT
  have hle := wayN_le d
  obtain ⟨U, hU⟩ : ∃ U, U = uN d := ⟨_, rfl⟩
  obtain ⟨K, hK⟩ : ∃ K, K = wayN d := ⟨_, rfl⟩
  rw [← hU] at HU hul HW
  rw [← hK] at HW hle ⊢
  clear hU hK HT
  go_enter Tryd.func82, Tryd.ntmps82
  go_wp2
  go_loopw [3] (fun t wr => ∃ c : Nat, c ≤ K ∧ t = .int .i64 c ∧ w = wr) (fun t _ => 4 - (intOf t).toNat)
  case atStart => exact ⟨0, by omega, rfl, rfl⟩
  case round =>
    obtain ⟨c, hc, rfl, rfl⟩ := hrel
    by_cases h4 : c < 4
    · have hcell := HT'.out c (by omega)
      have hcc := width_cases c (by omega)
      have hq := HW.out c h4 hc
      obtain ⟨S, hS⟩ : ∃ S, S = widthW.getD c 0 := ⟨_, rfl⟩
      rw [← hS] at hcell hcc hq
      obtain ⟨X, hX⟩ : ∃ X, X = cutI U S := ⟨_, rfl⟩
      rw [← hX] at hq
      have HC := cut_any U hul S hcc w
      rw [← hX] at HC
      have HCC := Lib.hid HC
      have c4 : (c : Int) < 4 := by omega
      have c0 : (0 : Int) ≤ (c : Int) := by omega
      clear hS hX HC hcc
      by_cases hlt : c < K
      · have hq2 : (X != d) = true := by rw [hq]; exact decide_eq_true hlt
        have HL := Lib.hid hlt
        clear hq hlt hc
        go_wp2_with (go_at_call 94; refine HCC.out.mono ?_; rintro e w' ⟨rfl, rfl⟩)
        go_roundw
        case rel => exact ⟨c + 1, HL.out, by go_num, trivial⟩
        case measure => simp [intOf]; omega
      · have hq2 : (X != d) = false := by rw [hq]; exact decide_eq_false hlt
        have hcK : c = K := by omega
        have HL := Lib.hid hcK
        clear hq hlt hc hcK
        go_wp2_with (go_at_call 94; refine HCC.out.mono ?_; rintro e w' ⟨rfl, rfl⟩)
        go_ret
        exact ⟨by rw [HL.out]; rfl, rfl⟩
    · have hc4 : c = 4 := by omega
      have hK4 : K = 4 := by omega
      subst hc4
      have HL := Lib.hid hK4
      clear hK4 hc hle
      go_wp2
      go_ret
      exact ⟨by rw [HL.out]; rfl, rfl⟩

/-- A difference's bits in its way. -/
def stepB (d : Int) : List Bool := List.replicate (wayN d) true ++ (if wayN d < 4 then [false] else []) ++ bitsN (uN d) (widthW.getD (wayN d) 0)
theorem BwTo.low {w w' : World} {B p : Nat} {v : Value} {bs bs2 : List Bool} (hW : BwAt w B p v bs) (h2 : BwTo w w' B p v bs2) {a : Addr} {x : Value} (ha : a.block < B) (hc : w.cell? a = some x) : w'.cell? a = some x := by
  obtain ⟨v2, _, _, hk⟩ := h2
  refine hk.cell hc ?_
  rintro (e | e)
  · have := hW.base; omega
  · have := (ownsRow_lt hW.owns e).2; omega
theorem WayTab.bw {w w' : World} {B p : Nat} {v : Value} {bs bs2 : List Bool} (h : WayTab w) (hW : BwAt w B p v bs) (hB : 1 < B) (h2 : BwTo w w' B p v bs2) : WayTab w' :=
  fun j hj => h2.low hW hB (h j hj)

theorem shl_shr (U S D : Nat) (hS : S + D = 64) : IntKind.u64.wrap ((U : Int) * 2 ^ D) / 2 ^ D = ((U % 2 ^ S : Nat) : Int) := by
  have e : (2 : Nat) ^ 64 = 2 ^ S * 2 ^ D := by rw [← hS, Nat.pow_add]
  have h1 : (U : Int) * 2 ^ D = ((U * 2 ^ D : Nat) : Int) := by simp
  have h2 : U * 2 ^ D % 2 ^ 64 = U % 2 ^ S * 2 ^ D := by rw [e, Nat.mul_mod_mul_right]
  have h4 : (2 : Nat) ^ 64 = 18446744073709551616 := by decide
  rw [h4] at h2
  rw [h1, IntKind.wrap_u64]
  have h3 : ((U * 2 ^ D : Nat) : Int) % 18446744073709551616 = ((U * 2 ^ D % 18446744073709551616 : Nat) : Int) := by omega
  rw [h3, h2]
  have h5 : (2 : Int) ^ D = ((2 ^ D : Nat) : Int) := by simp
  rw [h5, ← Int.natCast_ediv, Nat.mul_div_cancel _ (Nat.two_pow_pos D)]
theorem bitsN_01 : bitsN 0 1 = [false] := rfl
set_option maxHeartbeats 2000000 in
set_option maxRecDepth 100000 in
theorem putWay_any (B p : Nat) (v : Value) (bs : List Bool) (d : Int) (w : World) (HW : BwAt w B p v bs) (hB0 : 1 < B) (hB : B ≤ w.heap.size) (h0 : -9223372036854775808 ≤ d) (h1 : d ≤ 9223372036854775807) (hl : bs.length ≤ 900000000) (HT : WayTab w) :
    Calls Tryd.prog 58 #[.pointer (some ⟨p, 0, none⟩), .int .i64 d] w fun e w' => e = .returned (.tuple #[]) ∧ BwTo w w' B p v (bs ++ stepB d) := by
  have HU := uN_u64 d
  have hul := uN_lt d
  have hle := wayN_le d
  have HWAY := Lib.hid (way_any d h0 h1 w HT)
  have HS : Hid (stepB d = List.replicate (wayN d) true ++ (if wayN d < 4 then [false] else []) ++ bitsN (uN d) (widthW.getD (wayN d) 0)) := Lib.hid rfl
  obtain ⟨U, hU⟩ : ∃ U, U = uN d := ⟨_, rfl⟩
  obtain ⟨K, hK⟩ : ∃ K, K = wayN d := ⟨_, rfl⟩
  rw [← hU] at HU hul HS
  rw [← hK] at HWAY hle HS
  have HT' := Lib.hid HT
  have HW' := Lib.hid HW
  have hst : BwTo w w B p v (bs ++ List.replicate 0 true) := by simpa using HW.to
  have hsc := width_cases K (by omega)
  obtain ⟨S, hS⟩ : ∃ S, S = widthW.getD K 0 := ⟨_, rfl⟩
  rw [← hS] at HS hsc
  obtain ⟨D, hD⟩ : ∃ D, D = 64 - S := ⟨_, rfl⟩
  have hS64 : S ≤ 64 := by omega
  have d1 : 64 - (S : Int) = (D : Int) := by omega
  have d2 : IntKind.i64.wrap (64 - (S : Int)) = (D : Int) := by rw [d1]; exact IntWalk.i64_in _ ⟨by omega, by omega⟩
  have d0 : (0 : Int) ≤ (D : Int) := by omega
  have hsh := shl_shr U S D (by omega)
  obtain ⟨X, hX⟩ : ∃ X, X = U % 2 ^ S := ⟨_, rfl⟩
  rw [← hX] at hsh
  have hXl : X < 2 ^ S := by rw [hX]; exact Nat.mod_lt _ (Nat.two_pow_pos S)
  have hXb : bitsN X S = bitsN U S := by rw [hX, bitsN_mod]
  have HXL := Lib.hid hXl
  have HXB := Lib.hid hXb
  have HSE := Lib.hid hS
  clear hU hK HT HW hS hD hX hXl hXb hsc
  go_enter Tryd.func58, Tryd.ntmps58
  go_wp2_with (go_at_call 82; refine HWAY.out.mono ?_; rintro e w' ⟨rfl, rfl⟩)
  go_loopg [9] K (fun g i wr => ∃ m : Nat, m ≤ K ∧ g = K - m ∧ i = .int .i64 m ∧ BwTo w wr B p v (bs ++ List.replicate m true))
  case atStart => exact ⟨0, Nat.zero_le _, rfl, rfl, hst⟩
  case round =>
    obtain ⟨m, hm, rfl, rfl, hto⟩ := hrel
    clear hst
    have htab := HT'.out.bw HW'.out hB0 hto
    have hcell := htab K (by omega)
    rw [← HSE.out] at hcell
    obtain ⟨v1, HW1, hsz1, back⟩ := hto.part
    have HTO := Lib.hid hto
    have HWW := Lib.hid HW1
    have HB1 := Lib.hid (Nat.le_trans hB hsz1)
    have HTB := Lib.hid htab
    clear hto HW1 htab
    by_cases hd : m < K
    · have hdi : (m : Int) < (K : Int) := by omega
      have HD := Lib.hid hd
      clear hd
      go_wp2_with (go_at_call 48; refine (bput_yes B p v1 _ 1 1 _ HWW.out HB1.out (by omega) (by omega) (by simp; omega)).mono ?_; rintro e w1 ⟨rfl, hto⟩; have HTO2 := Lib.hid (back.out _ _ hto); clear hto)
      go_roundg (K - (m + 1))
      case measure => have := HD.out; omega
      case rel => exact ⟨m + 1, HD.out, rfl, by go_num, by have := HTO2.out; rw [List.append_assoc] at this; rw [List.replicate_succ']; exact this⟩
    · have hmK : m = K := by omega
      subst hmK
      have c0 : (0 : Int) ≤ (m : Int) := by omega
      have c5 : (m : Int) < 5 := by omega
      clear hd
      by_cases hlt : m < 4
      · have HQ := Lib.hid (show stepB d = List.replicate m true ++ [false] ++ bitsN U S from by rw [HS.out, if_pos hlt])
        have q1 : (m : Int) < 4 := by omega
        have q2 : decide (m < 4) = true := decide_eq_true hlt
        clear hlt hm
        go_wp2_with (first
          | (go_at_call_of 48 X; refine (bput_yes B p v2 _ X S _ HW2.out (Nat.le_trans HB1.out HSZ2.out) hS64 HXL.out (by simp; omega)).mono ?_; rintro e w3 ⟨rfl, hto⟩; have HTO3 := Lib.hid (back.out _ _ (hcomp.out _ _ hto)); clear hto)
          | (go_at_call 48; refine (bput_yes B p v1 _ 0 1 _ HWW.out HB1.out (by omega) (by omega) (by simp; omega)).mono ?_; rintro e w2 ⟨rfl, hto⟩; have hcell2 := hto.low HWW.out hB0 hcell; obtain ⟨v2, hw2, hsz2, hcomp⟩ := hto.part; have HW2 := Lib.hid hw2; have HSZ2 := Lib.hid hsz2; clear hto hw2 hsz2))
        go_end0
        refine ⟨rfl, ?_⟩
        have := HTO3.out
        rw [HXB.out, bitsN_01] at this
        rw [HQ.out]
        simpa using this
      · have HQ := Lib.hid (show stepB d = List.replicate m true ++ bitsN U S from by rw [HS.out, if_neg hlt, List.append_nil])
        have q1 : ¬ (m : Int) < 4 := by omega
        have q2 : decide (m < 4) = false := decide_eq_false hlt
        clear hlt hm
        go_wp2_with (go_at_call_of 48 X; refine (bput_yes B p v1 _ X S _ HWW.out HB1.out hS64 HXL.out (by simp; omega)).mono ?_; rintro e w3 ⟨rfl, hto⟩; have HTO3 := Lib.hid (back.out _ _ hto); clear hto)
        go_end0
        refine ⟨rfl, ?_⟩
        have := HTO3.out
        rw [HXB.out] at this
        rw [HQ.out]
        simpa using this
end Go.Proofs.YtjpnfadmblmjbaaDoor
