/- Texts put together: V5, V6, V7, VL, V8, V9, Z3, Z4, Z5, Z6, VB5. -/
import Derived.Test.YtjpnfadmblmjbaaDoorZz3
import Derived.WalkKit
import Derived.Test.YtjpnfadmblmjbaaDoorRows
import Derived.Test.YtjpnfadmblmjbaaDoorZz1
import Derived.Outline
import Derived.WideShapes
/- package vary, layer 6: the least class of a number, and the document's. -/
namespace Go.Proofs.YtjpnfadmblmjbaaDoor
open Go.RowKit
attribute [local go_sem ↓] Go.wp_at_zero Go.wp_at_succ

/-- How many bits a class has. -/
def sizeC : List Nat := [0, 7, 20, 64]
/-- The least class of a number. -/
def classN (v : Nat) : Nat := if v < 1 then 0 else if v < 128 then 1 else if v < 1048576 then 2 else 3
/-- The program's table of the classes. -/
def ClassTab (w : World) : Prop := ∀ j, j < 4 → w.cell? ⟨0, j, none⟩ = some (.int .i64 ((sizeC.getD j 0 : Nat) : Int))
theorem ClassTab.kept {w w' : World} (h : ClassTab w) (hk : Kept (fun _ => False) w w') : ClassTab w' := fun j hj => hk.cell (h j hj) fun x => x

set_option maxHeartbeats 1000000 in
theorem class_any (v : Nat) (hv : v < 18446744073709551616) (w : World) (HT : ClassTab w) :
    Calls Tryd.prog 47 #[.int .u64 v] w fun e w' => e = .returned (.int .i64 ((classN v : Nat) : Int)) ∧ w = w' := by
  have t0 : w.cell? ⟨0, 0, none⟩ = some (.int .i64 0) := HT 0 (by omega)
  have t1 : w.cell? ⟨0, 1, none⟩ = some (.int .i64 7) := HT 1 (by omega)
  have t2 : w.cell? ⟨0, 2, none⟩ = some (.int .i64 20) := HT 2 (by omega)
  have h0 : (0 : Int) ≤ (v : Int) := by omega
  have HC : Hid (classN v = if v < 1 then 0 else if v < 128 then 1 else if v < 1048576 then 2 else 3) := Lib.hid rfl
  clear HT
  go_enter Tryd.func47, Tryd.ntmps47
  go_wp2
  go_loopw [3] (fun t wr => ∃ c : Nat, c ≤ classN v ∧ t = .int .i64 c ∧ w = wr) (fun t _ => 3 - (intOf t).toNat)
  case atStart => exact ⟨0, by omega, rfl, rfl⟩
  case round =>
    obtain ⟨c, hc, rfl, rfl⟩ := hrel
    have hc3 : c ≤ 3 := by
      have := HC.out
      rw [this] at hc
      split at hc
      · omega
      · split at hc
        · omega
        · split at hc <;> omega
    have hcc : c = 0 ∨ c = 1 ∨ c = 2 ∨ c = 3 := by omega
    by_cases he : c = classN v
    · have HE : Hid (classN v = c) := Lib.hid he.symm
      have HV : v < 1 ∧ c = 0 ∨ (1 ≤ v ∧ v < 128 ∧ c = 1) ∨ (128 ≤ v ∧ v < 1048576 ∧ c = 2) ∨ c = 3 := by
        have := HC.out
        rw [← he] at this
        split at this
        · omega
        · split at this
          · omega
          · split at this <;> omega
      clear he hc
      rcases HV with ⟨h1, rfl⟩ | ⟨h1, h2, rfl⟩ | ⟨h1, h2, rfl⟩ | rfl
      · have q : ((v : Int) != 0) = false := by simp; omega
        go_wp2
        go_ret
        exact ⟨by rw [HE.out]; rfl, rfl⟩
      · have q : ((v : Int) / 128 != 0) = false := by simp; omega
        go_wp2
        go_ret
        exact ⟨by rw [HE.out]; rfl, rfl⟩
      · have q : ((v : Int) / 1048576 != 0) = false := by simp; omega
        go_wp2
        go_ret
        exact ⟨by rw [HE.out]; rfl, rfl⟩
      · go_wp2
        go_ret
        exact ⟨by rw [HE.out]; rfl, rfl⟩
    · have hlt : c + 1 ≤ classN v := by omega
      have HV : (1 ≤ v ∧ c = 0) ∨ (128 ≤ v ∧ c = 1) ∨ (1048576 ≤ v ∧ c = 2) := by
        have := HC.out
        rw [this] at hlt
        split at hlt
        · omega
        · split at hlt
          · omega
          · split at hlt <;> omega
      have HL := Lib.hid hlt
      clear he hc hlt
      rcases HV with ⟨h1, rfl⟩ | ⟨h1, rfl⟩ | ⟨h1, rfl⟩
      · have q : ((v : Int) != 0) = true := by simp; omega
        go_wp2
        go_roundw
        case rel => exact ⟨1, HL.out, rfl, trivial⟩
        case measure => simp [intOf]
      · have q : ((v : Int) / 128 != 0) = true := by simp; omega
        go_wp2
        go_roundw
        case rel => exact ⟨2, HL.out, rfl, trivial⟩
        case measure => simp [intOf]
      · have q : ((v : Int) / 1048576 != 0) = true := by simp; omega
        go_wp2
        go_roundw
        case rel => exact ⟨3, HL.out, rfl, trivial⟩
        case measure => simp [intOf]
end Go.Proofs.YtjpnfadmblmjbaaDoor
/- package limnographref06: size, power, Class. -/
namespace Go.Proofs.YtjpnfadmblmjbaaDoor
open Go.RowKit
attribute [local go_sem ↓] Go.wp_at_zero Go.wp_at_succ

set_option maxHeartbeats 1000000 in
theorem refSize_any (c : Nat) (hc : c < 4) (w : World) :
    Calls Tryd.prog 52 #[.int .i64 c] w fun e w' => e = .returned (.int .i64 ((sizeC.getD c 0 : Nat) : Int)) ∧ Kept (fun _ => False) w w' := by
  have hcc : c = 0 ∨ c = 1 ∨ c = 2 ∨ c = 3 := by omega
  rcases hcc with rfl | rfl | rfl | rfl
  all_goals
    go_enter Tryd.func52, Tryd.ntmps52
    go_wp2
    go_ret
    exact ⟨rfl, (Kept.refl _ _).alloc _⟩

set_option maxHeartbeats 1000000 in
theorem refPower_any (n : Nat) (hn : n ≤ 63) (w : World) :
    Calls Tryd.prog 80 #[.int .i64 n] w fun e w' => e = .returned (.int .u64 ((2 ^ n : Nat) : Int)) ∧ w = w' := by
  go_enter Tryd.func80, Tryd.ntmps80
  go_wp2
  go_loopw [3, 4] (fun x t wr => ∃ j y : Nat, j ≤ n ∧ y = 2 ^ j ∧ x = .int .u64 y ∧ t = .int .i64 j ∧ w = wr) (fun _ t _ => n - (intOf t).toNat)
  case atStart => exact ⟨0, 1, by omega, rfl, rfl, rfl, rfl⟩
  case round =>
    obtain ⟨j, y, hj, hy, rfl, rfl, rfl⟩ := hrel
    by_cases hd : j < n
    · have hd' : (j : Int) < (n : Int) := by omega
      have hj0 : (0 : Int) ≤ (j : Int) := by omega
      have hp : 2 ^ (j + 1) ≤ 2 ^ 63 := Nat.pow_le_pow_right (by omega) (by omega)
      have hy2 : 2 * y = 2 ^ (j + 1) := by rw [hy, Nat.pow_succ, Nat.mul_comm]
      obtain ⟨z, hz⟩ : ∃ z, z = 2 * y := ⟨_, rfl⟩
      have hzl : z ≤ 9223372036854775808 := by
        have e : (2 : Nat) ^ 63 = 9223372036854775808 := by decide
        omega
      have f1 : 2 * (y : Int) = (z : Int) := by omega
      have f2 : IntKind.u64.wrap (z : Int) = (z : Int) := by rw [IntKind.wrap_u64]; omega
      have HZ : Hid (z = 2 ^ (j + 1)) := Lib.hid (by omega)
      clear hp hy2 hz hy
      go_wp2
      go_roundw
      case rel => exact ⟨j + 1, z, hd, HZ.out, rfl, by go_num, trivial⟩
      case measure => simp [intOf]; omega
    · have hjn : n = j := by omega
      subst hjn
      have HY := Lib.hid hy
      clear hy
      go_wp2
      go_ret
      exact ⟨by rw [← HY.out]; rfl, rfl⟩

set_option maxHeartbeats 2000000 in
theorem refClass_any (v : Nat) (hv : v < 18446744073709551616) (w : World) :
    Calls Tryd.prog 50 #[.int .u64 v] w fun e w' => e = .returned (.int .i64 ((classN v : Nat) : Int)) ∧ Kept (fun _ => False) w w' := by
  have HC : Hid (classN v = if v < 1 then 0 else if v < 128 then 1 else if v < 1048576 then 2 else 3) := Lib.hid rfl
  have HSZ := Lib.hid refSize_any
  have P0 := Lib.hid (refPower_any 0 (by omega))
  have P1 := Lib.hid (refPower_any 7 (by omega))
  have P2 := Lib.hid (refPower_any 20 (by omega))
  go_enter Tryd.func50, Tryd.ntmps50
  go_wp2
  go_loopw [3] (fun t wr => ∃ c : Nat, c ≤ 3 ∧ (c = 1 → 1 ≤ v) ∧ (c = 2 → 128 ≤ v) ∧ (c = 3 → 1048576 ≤ v) ∧ t = .int .i64 c ∧ Kept (fun _ => False) w wr) (fun t _ => 3 - (intOf t).toNat)
  case atStart => exact ⟨0, by omega, fun h => absurd h (by omega), fun h => absurd h (by omega), fun h => absurd h (by omega), rfl, Kept.refl _ _⟩
  case round =>
    obtain ⟨c, hc3, k1, k2, k3, rfl, hk⟩ := hrel
    have HK := Lib.hid hk
    clear hk
    have hcc : c = 0 ∨ c = 1 ∨ c = 2 ∨ c = 3 := by omega
    rcases hcc with rfl | rfl | rfl | rfl
    · by_cases h : v < 1
      · have HE : Hid (classN v = 0) := Lib.hid (by rw [HC.out, if_pos h])
        have q : decide ((v : Int) < 1) = true := decide_eq_true (by omega)
        clear k1 k2 k3
        go_wp2_with (first
          | (go_at_call 52; refine (HSZ.out 0 (by omega) _).mono ?_; rintro e w1 ⟨rfl, hk⟩; have H1 := Lib.hid (HK.out.trans hk); clear hk)
          | (go_at_call 80; refine (P0.out _).mono ?_; rintro e w1 ⟨rfl, rfl⟩))
        go_ret
        exact ⟨by rw [HE.out]; rfl, H1.out⟩
      · have q : decide ((v : Int) < 1) = false := decide_eq_false (by omega)
        clear k1 k2 k3
        go_wp2_with (first
          | (go_at_call 52; refine (HSZ.out 0 (by omega) _).mono ?_; rintro e w1 ⟨rfl, hk⟩; have H1 := Lib.hid (HK.out.trans hk); clear hk)
          | (go_at_call 80; refine (P0.out _).mono ?_; rintro e w1 ⟨rfl, rfl⟩))
        go_roundw
        case rel => exact ⟨1, by omega, fun _ => by omega, fun h => absurd h (by omega), fun h => absurd h (by omega), rfl, H1.out⟩
        case measure => simp [intOf]
    · by_cases h : v < 128
      · have HE : Hid (classN v = 1) := Lib.hid (by rw [HC.out, if_neg (by have := k1 rfl; omega), if_pos h])
        have q : decide ((v : Int) < 128) = true := decide_eq_true (by omega)
        clear k1 k2 k3
        go_wp2_with (first
          | (go_at_call 52; refine (HSZ.out 1 (by omega) _).mono ?_; rintro e w1 ⟨rfl, hk⟩; have H1 := Lib.hid (HK.out.trans hk); clear hk)
          | (go_at_call 80; refine (P1.out _).mono ?_; rintro e w1 ⟨rfl, rfl⟩))
        go_ret
        exact ⟨by rw [HE.out]; rfl, H1.out⟩
      · have q : decide ((v : Int) < 128) = false := decide_eq_false (by omega)
        clear k1 k2 k3
        go_wp2_with (first
          | (go_at_call 52; refine (HSZ.out 1 (by omega) _).mono ?_; rintro e w1 ⟨rfl, hk⟩; have H1 := Lib.hid (HK.out.trans hk); clear hk)
          | (go_at_call 80; refine (P1.out _).mono ?_; rintro e w1 ⟨rfl, rfl⟩))
        go_roundw
        case rel => exact ⟨2, by omega, fun h => absurd h (by omega), fun _ => by omega, fun h => absurd h (by omega), rfl, H1.out⟩
        case measure => simp [intOf]
    · by_cases h : v < 1048576
      · have HE : Hid (classN v = 2) := Lib.hid (by rw [HC.out, if_neg (by have := k2 rfl; omega), if_neg (by have := k2 rfl; omega), if_pos h])
        have q : decide ((v : Int) < 1048576) = true := decide_eq_true (by omega)
        clear k1 k2 k3
        go_wp2_with (first
          | (go_at_call 52; refine (HSZ.out 2 (by omega) _).mono ?_; rintro e w1 ⟨rfl, hk⟩; have H1 := Lib.hid (HK.out.trans hk); clear hk)
          | (go_at_call 80; refine (P2.out _).mono ?_; rintro e w1 ⟨rfl, rfl⟩))
        go_ret
        exact ⟨by rw [HE.out]; rfl, H1.out⟩
      · have q : decide ((v : Int) < 1048576) = false := decide_eq_false (by omega)
        clear k1 k2 k3
        go_wp2_with (first
          | (go_at_call 52; refine (HSZ.out 2 (by omega) _).mono ?_; rintro e w1 ⟨rfl, hk⟩; have H1 := Lib.hid (HK.out.trans hk); clear hk)
          | (go_at_call 80; refine (P2.out _).mono ?_; rintro e w1 ⟨rfl, rfl⟩))
        go_roundw
        case rel => exact ⟨3, by omega, fun h => absurd h (by omega), fun h => absurd h (by omega), fun _ => by omega, rfl, H1.out⟩
        case measure => simp [intOf]
    · have HE : Hid (classN v = 3) := Lib.hid (by rw [HC.out, if_neg (by have := k3 rfl; omega), if_neg (by have := k3 rfl; omega), if_neg (by have := k3 rfl; omega)])
      clear k1 k2 k3
      go_wp2
      go_ret
      exact ⟨by rw [HE.out]; rfl, HK.out⟩
end Go.Proofs.YtjpnfadmblmjbaaDoor
/- package vary: Put. -/
namespace Go.Proofs.YtjpnfadmblmjbaaDoor
open Go.RowKit
attribute [local go_sem ↓] Go.wp_at_zero Go.wp_at_succ

/-- A number's small form. -/
def smallB (v : Nat) : List Bool := bitsN (classN v) 2 ++ bitsN v (sizeC.getD (classN v) 0)
theorem classN_le (v : Nat) : classN v < 4 := by unfold classN; split; omega; split; omega; split <;> omega
theorem class_fits (v : Nat) (hv : v < 18446744073709551616) : v < 2 ^ sizeC.getD (classN v) 0 := by
  unfold classN
  split
  · show v < 2 ^ 0; simpa using ‹v < 1›
  · split
    · show v < 2 ^ 7; simpa using ‹v < 128›
    · split
      · show v < 2 ^ 20; simpa using ‹v < 1048576›
      · show v < 2 ^ 64; simpa using hv
theorem ClassTab.bw {w w' : World} {B p : Nat} {v : Value} {bs bs2 : List Bool} (h : ClassTab w) (hW : BwAt w B p v bs) (hB : 0 < B) (h2 : BwTo w w' B p v bs2) : ClassTab w' := by
  obtain ⟨v2, _, _, hk⟩ := h2
  intro j hj
  refine hk.cell (h j hj) ?_
  rintro (e | e)
  · have := hW.base; simp only at e; omega
  · have := (ownsRow_lt hW.owns e).2; simp only at this; omega

set_option maxHeartbeats 1000000 in
theorem varyPut_any (B p : Nat) (v : Value) (bs : List Bool) (x : Nat) (w : World) (HW : BwAt w B p v bs) (hB0 : 0 < B) (hB : B ≤ w.heap.size) (hx : x < 18446744073709551616) (hl : bs.length ≤ 900000000) (HT : ClassTab w) :
    Calls Tryd.prog 12 #[.pointer (some ⟨p, 0, none⟩), .int .u64 x] w fun e w' => e = .returned (.tuple #[]) ∧ BwTo w w' B p v (bs ++ smallB x) := by
  have hc := classN_le x
  have hfit := class_fits x hx
  have HC := Lib.hid (class_any x hx w HT)
  have HS : Hid (smallB x = bitsN (classN x) 2 ++ bitsN x (sizeC.getD (classN x) 0)) := Lib.hid rfl
  have hsz : sizeC.getD (classN x) 0 ≤ 64 := by
    have hcc : classN x = 0 ∨ classN x = 1 ∨ classN x = 2 ∨ classN x = 3 := by omega
    rcases hcc with h | h | h | h <;> rw [h] <;> decide
  have h4 : classN x < 2 ^ 2 := by simpa using hc
  have HP1 := Lib.hid (bput_yes B p v bs (classN x) 2 w HW hB (by omega) h4 (by omega))
  clear h4
  obtain ⟨C, hCe⟩ : ∃ C, C = classN x := ⟨_, rfl⟩
  rw [← hCe] at HC HS HP1 hc hsz hfit
  obtain ⟨S, hSe⟩ : ∃ S, S = sizeC.getD C 0 := ⟨_, rfl⟩
  rw [← hSe] at HS hsz hfit
  have e1 : IntKind.u64.wrap (C : Int) = (C : Int) := by rw [IntKind.wrap_u64]; omega
  have c0 : (0 : Int) ≤ (C : Int) := by omega
  have c1 : (C : Int) < 4 := by omega
  have HSe := Lib.hid hSe
  have HW' := Lib.hid HW
  have HT' := Lib.hid HT
  clear HT hCe hSe HW
  go_enter Tryd.func12, Tryd.ntmps12
  go_wp2_with (first
    | (go_at_call 47; refine HC.out.mono ?_; rintro e w' ⟨rfl, rfl⟩)
    | (go_at_call_of 48 C; refine HP1.out.mono ?_; rintro e w1 ⟨rfl, hto⟩; have ht1 := HT'.out.bw HW'.out hB0 hto; have hcell := ht1 C hc; rw [← HSe.out] at hcell; obtain ⟨v1, hw1, hsz1, hcomp⟩ := hto.part; have HW1 := Lib.hid hw1; have HSZ1 := Lib.hid hsz1; clear hto ht1 hw1 hsz1)
    | (go_at_call_of 48 x; refine (bput_yes B p v1 _ x S w1 HW1.out (Nat.le_trans hB HSZ1.out) hsz hfit (by simp; omega)).mono ?_; rintro e w2 ⟨rfl, hto2⟩; have HTO := Lib.hid (hcomp.out _ _ hto2); clear hto2))
  go_end0
  exact ⟨rfl, by rw [HS.out, ← List.append_assoc]; exact HTO.out⟩
end Go.Proofs.YtjpnfadmblmjbaaDoor
/- Plain facts on numbers, which import nothing of a translation: Zig and Zag; exclusive or with no bits and with all bits. -/
namespace Go.Proofs.YtjpnfadmblmjbaaDoor
open Go.RowKit

/-- A signed number as one that isn't. -/
def zigI (a : Int) : Int := if 0 ≤ a then 2 * a else -2 * a - 1
/-- And turned back. -/
def zagI (v : Int) : Int := if v % 2 = 0 then v / 2 else -(v / 2) - 1

theorem zigI_range (a : Int) (h0 : -9223372036854775808 ≤ a) (h1 : a ≤ 9223372036854775807) : 0 ≤ zigI a ∧ zigI a ≤ 18446744073709551615 := by
  unfold zigI; split <;> omega
theorem zagI_range (v : Int) (h0 : 0 ≤ v) (h1 : v ≤ 18446744073709551615) : -9223372036854775808 ≤ zagI v ∧ zagI v ≤ 9223372036854775807 := by
  unfold zagI; split <;> omega
theorem zag_zig (a : Int) : zagI (zigI a) = a := by
  unfold zagI zigI; split <;> split <;> omega
theorem zig_zag (v : Int) (h0 : 0 ≤ v) : zigI (zagI v) = v := by
  unfold zagI zigI; split <;> split <;> omega
theorem zig_inj (a b : Int) (h : zigI a = zigI b) : a = b := by
  rw [← zag_zig a, h, zag_zig]

theorem wrap_u64_of (x : Int) (h0 : 0 ≤ x) (h1 : x ≤ 18446744073709551615) : IntKind.u64.wrap x = x := by
  rw [IntKind.wrap_u64]; omega

theorem xor_u64_none (x : Int) (h0 : 0 ≤ x) (h1 : x ≤ 18446744073709551615) : bits .xor .u64 x 0 = x := by
  have h := u64_xor x 0 h0 (by omega) (by omega) (by omega)
  rw [h]; simp; omega

theorem xor_u64_all (x : Int) (h0 : 0 ≤ x) (h1 : x ≤ 18446744073709551615) : bits .xor .u64 x 18446744073709551615 = 18446744073709551615 - x := by
  obtain ⟨n, rfl⟩ : ∃ n : Nat, x = n := ⟨x.toNat, by omega⟩
  have hn : n < 2 ^ 64 := by omega
  have h := u64_xor_nat n 18446744073709551615 (by omega) (by omega)
  have e : n ^^^ 18446744073709551615 = 18446744073709551615 - n := by
    have b := congrArg BitVec.toNat (BitVec.xor_allOnes (x := BitVec.ofNat 64 n))
    simpa [BitVec.toNat_xor, BitVec.toNat_allOnes, BitVec.toNat_not, Nat.mod_eq_of_lt hn] using b
  have h' := h
  rw [e] at h'
  have : ((18446744073709551615 - n : Nat) : Int) = 18446744073709551615 - (n : Int) := by omega
  rw [this] at h'
  exact h'

/-- What Zig's shifts and exclusive or come to. -/
theorem zig_bits (a : Int) (h0 : -9223372036854775808 ≤ a) (h1 : a ≤ 9223372036854775807) :
    bits .xor .u64 (IntKind.u64.wrap (IntKind.u64.wrap a * 2)) (IntKind.u64.wrap (a / 9223372036854775808)) = zigI a := by
  simp only [IntKind.wrap_u64]
  by_cases h : 0 ≤ a
  · have e : (a / 9223372036854775808) % 18446744073709551616 = 0 := by omega
    have e2 : a % 18446744073709551616 * 2 % 18446744073709551616 = 2 * a := by omega
    rw [e, e2, xor_u64_none _ (by omega) (by omega)]
    unfold zigI; rw [if_pos h]
  · have e : (a / 9223372036854775808) % 18446744073709551616 = 18446744073709551615 := by omega
    have e2 : a % 18446744073709551616 * 2 % 18446744073709551616 = 18446744073709551616 + 2 * a := by omega
    rw [e, e2, xor_u64_all _ (by omega) (by omega)]
    unfold zigI; rw [if_neg h]; omega
end Go.Proofs.YtjpnfadmblmjbaaDoor
namespace Go.Proofs.YtjpnfadmblmjbaaDoor
open Go.RowKit
theorem xor_i64_eq (x y : Int) : bits .xor .i64 x y = IntKind.i64.wrap ((BitVec.ofInt 64 x ^^^ BitVec.ofInt 64 y).toNat : Int) := rfl
theorem wrap_i64_ofInt (x : Int) (h0 : -9223372036854775808 ≤ x) (h1 : x ≤ 9223372036854775807) : IntKind.i64.wrap ((BitVec.ofInt 64 x).toNat : Int) = x := by
  rw [BitVec.toNat_ofInt]
  simp [IntKind.bits, IntKind.wrap, IntKind.signed]
  omega
theorem xor_i64_none (x : Int) (h0 : -9223372036854775808 ≤ x) (h1 : x ≤ 9223372036854775807) : bits .xor .i64 x 0 = x := by
  have h : (BitVec.ofInt 64 x ^^^ BitVec.ofInt 64 0) = BitVec.ofInt 64 x := by simp
  rw [xor_i64_eq, h, wrap_i64_ofInt x h0 h1]
theorem xor_i64_all (x : Int) (h0 : -9223372036854775808 ≤ x) (h1 : x ≤ 9223372036854775807) : bits .xor .i64 x (-1) = -1 - x := by
  have h : (BitVec.ofInt 64 x ^^^ BitVec.ofInt 64 (-1)) = ~~~ BitVec.ofInt 64 x := by
    have : BitVec.ofInt 64 (-1) = BitVec.allOnes 64 := by decide
    rw [this, BitVec.xor_allOnes]
  rw [xor_i64_eq, h, BitVec.toNat_not, BitVec.toNat_ofInt]
  simp [IntKind.bits, IntKind.wrap, IntKind.signed]
  omega
theorem and1_u64 (v : Int) (h0 : 0 ≤ v) (h1 : v ≤ 18446744073709551615) : bits .and .u64 v 1 = v % 2 := by
  rw [u64_and v 1 h0 (by omega) (by omega) (by omega)]
  have := nat_mask1 v.toNat
  simp only [Int.toNat_one] at *
  rw [this]; omega

/-- How many bytes a number's form has behind the first one. -/
def oth (v : Int) : Nat :=
  if v < 128 then 0 else if v < 16384 then 1 else if v < 2097152 then 2 else if v < 268435456 then 3 else if v < 34359738368 then 4 else if v < 4398046511104 then 5 else if v < 562949953421312 then 6 else if v < 72057594037927936 then 7 else 8
theorem oth_le (v : Int) : oth v ≤ 8 := by unfold oth; (repeat' split) <;> omega
theorem oth_more (v : Int) (k : Nat) (_h0 : 0 ≤ v) (h : k < oth v) : ((2 ^ (7 + 7 * k) : Nat) : Int) ≤ v := by
  unfold oth at h
  have : k = 0 ∨ k = 1 ∨ k = 2 ∨ k = 3 ∨ k = 4 ∨ k = 5 ∨ k = 6 ∨ k = 7 := by (repeat' split at h) <;> omega
  rcases this with rfl | rfl | rfl | rfl | rfl | rfl | rfl | rfl <;> simp <;> (repeat' split at h) <;> omega
end Go.Proofs.YtjpnfadmblmjbaaDoor
namespace Go.Proofs.YtjpnfadmblmjbaaDoor
open Go.RowKit
theorem oth_end (v : Int) (k : Nat) (h : oth v = k) (hk : k < 8) : v < ((2 ^ (7 + 7 * k) : Nat) : Int) := by
  subst h
  unfold oth at *
  (repeat' split) <;> simp_all <;> omega
/-- What Zag's shifts and exclusive or come to. -/
theorem zag_bits (v : Int) (h0 : 0 ≤ v) (h1 : v ≤ 18446744073709551615) : bits .xor .i64 (v / 2) (wrap64 (-wrap64 (bits .and .u64 v 1))) = zagI v := by
  have e1 : wrap64 (bits .and .u64 v 1) = v % 2 := by rw [and1_u64 v h0 h1]; unfold wrap64; omega
  have e2 : wrap64 (-(v % 2)) = -(v % 2) := by unfold wrap64; omega
  rw [e1, e2]
  unfold zagI
  by_cases h : v % 2 = 0
  · rw [h, if_pos rfl]; exact xor_i64_none _ (by omega) (by omega)
  · have e : v % 2 = 1 := by omega
    rw [e, if_neg (by omega), xor_i64_all _ (by omega) (by omega)]; omega
end Go.Proofs.YtjpnfadmblmjbaaDoor
namespace Go.Proofs.YtjpnfadmblmjbaaDoor
open Go.RowKit
/-- The byte at place j from the low end. -/
def byteI (v : Int) (j : Nat) : Int := v / ((256 ^ j : Nat) : Int) % 256
/-- The first byte of a number's form: k bits set, one not, and the number's top bits. -/
def firstB (v : Int) (k : Nat) : Int := 256 - ((2 ^ (8 - k) : Nat) : Int) + v / ((256 ^ k : Nat) : Int)
/-- What stands behind the first byte: j of k bytes, the highest first. -/
def restB (v : Int) (k j : Nat) : List Int := (List.range j).map fun i => byteI v (k - 1 - i)
/-- A number's form. -/
def numBP (v : Int) : List Int := firstB v (oth v) :: restB v (oth v) (oth v)
theorem restB_succ (v : Int) (k j : Nat) : restB v k (j + 1) = restB v k j ++ [byteI v (k - 1 - j)] := by
  unfold restB; rw [List.range_succ, List.map_append]; rfl
theorem restB_length (v : Int) (k j : Nat) : (restB v k j).length = j := by simp [restB]
theorem numBP_length (v : Int) : (numBP v).length = 1 + oth v := by simp [numBP, restB]; omega
theorem byte_shift (v : Int) (s : Int) (j : Nat) (h : s = 8 * (j : Int)) : IntKind.u8.wrap (v / 2 ^ s.toNat) = byteI v j := by
  subst h
  rw [IntKind.wrap_u8]
  unfold byteI
  have e : (8 * (j : Int)).toNat = 8 * j := by omega
  have e2 : ((256 ^ j : Nat) : Int) = 2 ^ (8 * j) := by
    rw [show (256 : Nat) = 2 ^ 8 from rfl, ← Nat.pow_mul]; simp
  rw [e, e2]
theorem or_u8_join (a b : Int) (s : Nat) (ha : 0 ≤ a) (ha' : a < 256) (hm : a % ((2 ^ s : Nat) : Int) = 0) (hb : 0 ≤ b) (hb' : b < ((2 ^ s : Nat) : Int)) (hb'' : b < 256) : bits .or .u8 a b = a + b := by
  rw [u8_or a b ha ha' hb hb'']
  obtain ⟨n, rfl⟩ : ∃ n : Nat, a = n := ⟨a.toNat, by omega⟩
  obtain ⟨m, rfl⟩ : ∃ m : Nat, b = m := ⟨b.toNat, by omega⟩
  have hm' : n % 2 ^ s = 0 := by
    have h : ((n % 2 ^ s : Nat) : Int) = 0 := by rw [Int.natCast_emod]; exact hm
    exact Int.natCast_eq_zero.mp h
  have hb3 : m < 2 ^ s := Int.ofNat_lt.mp hb'
  have h := nat_join s n m hm' hb3
  rw [Int.toNat_natCast, Int.toNat_natCast, h, Int.natCast_add]
theorem first_bits (x : Int) (h0 : 0 ≤ x) (h1 : x ≤ 18446744073709551615) :
    bits .or .u8 (bits .xor .u8 IntKind.u8.max (255 / 2 ^ oth x)) (IntKind.u8.wrap (x / 2 ^ (8 * (oth x : Int)).toNat)) = firstB x (oth x) := by
  rw [byte_shift x _ (oth x) rfl]
  have hk := oth_le x
  have he : ∀ k, oth x = k → bits .or .u8 (bits .xor .u8 IntKind.u8.max (255 / 2 ^ k)) (byteI x k) = firstB x k := by
    intro k hk'
    have hs := fun h => oth_end x k hk' h
    obtain rfl | rfl | rfl | rfl | rfl | rfl | rfl | rfl | rfl : k = 0 ∨ k = 1 ∨ k = 2 ∨ k = 3 ∨ k = 4 ∨ k = 5 ∨ k = 6 ∨ k = 7 ∨ k = 8 := by omega
    all_goals
      try replace hs := hs (by decide)
      simp at hs
      unfold byteI firstB
      simp only [Nat.reducePow, Nat.reduceSub]
    · rw [show bits .xor .u8 IntKind.u8.max (255 / 2 ^ 0) = 0 from by decide, or_u8_join 0 _ 7 (by omega) (by omega) (by omega) (by omega) (by simp; omega) (by omega)]; omega
    · rw [show bits .xor .u8 IntKind.u8.max (255 / 2 ^ 1) = 128 from by decide, or_u8_join 128 _ 6 (by omega) (by omega) (by decide) (by omega) (by simp; omega) (by omega)]; omega
    · rw [show bits .xor .u8 IntKind.u8.max (255 / 2 ^ 2) = 192 from by decide, or_u8_join 192 _ 5 (by omega) (by omega) (by decide) (by omega) (by simp; omega) (by omega)]; omega
    · rw [show bits .xor .u8 IntKind.u8.max (255 / 2 ^ 3) = 224 from by decide, or_u8_join 224 _ 4 (by omega) (by omega) (by decide) (by omega) (by simp; omega) (by omega)]; omega
    · rw [show bits .xor .u8 IntKind.u8.max (255 / 2 ^ 4) = 240 from by decide, or_u8_join 240 _ 3 (by omega) (by omega) (by decide) (by omega) (by simp; omega) (by omega)]; omega
    · rw [show bits .xor .u8 IntKind.u8.max (255 / 2 ^ 5) = 248 from by decide, or_u8_join 248 _ 2 (by omega) (by omega) (by decide) (by omega) (by simp; omega) (by omega)]; omega
    · rw [show bits .xor .u8 IntKind.u8.max (255 / 2 ^ 6) = 252 from by decide, or_u8_join 252 _ 1 (by omega) (by omega) (by decide) (by omega) (by simp; omega) (by omega)]; omega
    · rw [show bits .xor .u8 IntKind.u8.max (255 / 2 ^ 7) = 254 from by decide, or_u8_join 254 _ 0 (by omega) (by omega) (by decide) (by omega) (by simp; omega) (by omega)]; omega
    · rw [show bits .xor .u8 IntKind.u8.max (255 / 2 ^ 8) = 255 from by decide, or_u8_join 255 _ 0 (by omega) (by omega) (by decide) (by omega) (by simp; omega) (by omega)]; omega
  exact he _ rfl
end Go.Proofs.YtjpnfadmblmjbaaDoor
/- Contracts of pack's Zig, Zag in a seat without the rest of pack (P1's beginning). -/
namespace Go.Proofs.YtjpnfadmblmjbaaDoor
open Go.RowKit

set_option maxHeartbeats 400000 in
theorem zig_any (a : Int) (h0 : -9223372036854775808 ≤ a) (h1 : a ≤ 9223372036854775807) (w : World) :
    Calls Tryd.prog 49 #[.int .i64 a] w fun e w' => e = .returned (.int .u64 (zigI a)) ∧ w = w' := by
  go_enter Tryd.func49, Tryd.ntmps49
  go_wp2
  go_ret
  exact ⟨ret_int (zig_bits a h0 h1), rfl⟩

set_option maxHeartbeats 400000 in
theorem zag_any (v : Int) (h0 : 0 ≤ v) (h1 : v ≤ 18446744073709551615) (w : World) :
    Calls Tryd.prog 56 #[.int .u64 v] w fun e w' => e = .returned (.int .i64 (zagI v)) ∧ w = w' := by
  go_enter Tryd.func56, Tryd.ntmps56
  go_wp2
  go_ret
  exact ⟨ret_int (zag_bits v h0 h1), rfl⟩

set_option maxHeartbeats 400000 in
theorem refZig_any (a : Int) (h0 : -9223372036854775808 ≤ a) (h1 : a ≤ 9223372036854775807) (w : World) :
    Calls Tryd.prog 15 #[.int .i64 a] w fun e w' => e = .returned (.int .u64 (zigI a)) ∧ w = w' := by
  by_cases h : 0 ≤ a
  · have hz : zigI a = 2 * a := if_pos h
    go_enter Tryd.func15, Tryd.ntmps15
    go_wp2
    go_ret
    exact ⟨ret_int hz.symm, rfl⟩
  · have hz : zigI a = 2 * (-1 - a) + 1 := by unfold zigI; rw [if_neg h]; omega
    go_enter Tryd.func15, Tryd.ntmps15
    go_wp2
    go_ret
    exact ⟨rfl, rfl⟩
end Go.Proofs.YtjpnfadmblmjbaaDoor
/- package vary: PutInt. -/
namespace Go.Proofs.YtjpnfadmblmjbaaDoor
open Go.RowKit
attribute [local go_sem ↓] Go.wp_at_zero Go.wp_at_succ

set_option maxHeartbeats 1000000 in
theorem varyPutInt_any (B p : Nat) (v : Value) (bs : List Bool) (a : Int) (z : Nat) (w : World) (HW : BwAt w B p v bs) (hB0 : 0 < B) (hB : B ≤ w.heap.size) (h0 : -9223372036854775808 ≤ a) (h1 : a ≤ 9223372036854775807) (hz : zigI a = (z : Int)) (hzl : z < 18446744073709551616) (hl : bs.length ≤ 900000000) (HT : ClassTab w) :
    Calls Tryd.prog 13 #[.pointer (some ⟨p, 0, none⟩), .int .i64 a] w fun e w' => e = .returned (.tuple #[]) ∧ BwTo w w' B p v (bs ++ smallB z) := by
  have HZ := Lib.hid (zig_any a h0 h1 w)
  rw [hz] at HZ
  have HP := Lib.hid (varyPut_any B p v bs z w HW hB0 hB hzl hl HT)
  clear HW HT hz
  go_enter Tryd.func13, Tryd.ntmps13
  go_wp2_with (first
    | (go_at_call 49; refine HZ.out.mono ?_; rintro e w' ⟨rfl, rfl⟩)
    | (go_at_call 12; refine HP.out.mono ?_; rintro e w2 ⟨rfl, hto⟩; have HTO := Lib.hid hto; clear hto))
  go_end0
  exact ⟨rfl, HTO.out⟩
end Go.Proofs.YtjpnfadmblmjbaaDoor
/- Layer 10: bits plainly; a writer and a row of histograms, both behind a world. -/
namespace Go.Proofs.YtjpnfadmblmjbaaDoor
open Go.RowKit

/-- Have two histograms one shape? -/
def alikeH (g h : HistV) : Prop := g.sc = h.sc ∧ g.po = h.po ∧ g.pl.length = h.pl.length ∧ g.no = h.no ∧ g.nl.length = h.nl.length
instance (g h : HistV) : Decidable (alikeH g h) := by unfold alikeH; exact inferInstance
/-- A signed number's turned form, as a number. -/
def zgN (a : Int) : Nat := (zigI a).toNat
/-- A side's shape. -/
def sideB (o : Int) (n : Nat) : List Bool := bitsN n 8 ++ (if n = 0 then [] else smallB (zgN o))
def shapeB (h : HistV) : List Bool := bitsN (h.sc + 10).toNat 5 ++ sideB h.po h.pl.length ++ sideB h.no h.nl.length
/-- The difference of two counts, as a signed number. -/
def difI (a b : Nat) : Int := wrap64 ((a : Int) - (b : Int))
/-- The bits of counts whose shape is that of the ones ahead. -/
def difB : List Nat → List Nat → List Bool
  | [], _ => []
  | a :: l, m => smallB (zgN (difI a (m.headD 0))) ++ difB l m.tail
/-- The bits of a row's next histogram, behind n of them, the last one g. -/
def nextH (n : Nat) (g h : HistV) : List Bool :=
  if 0 < n ∧ alikeH h g then true :: difB (cntL h) (cntL g) else false :: (shapeB h ++ (cntL h).flatMap smallB)
theorem zgN_zero : zgN 0 = 0 := by decide
theorem difB_same (l : List Nat) : difB l l = List.replicate (2 * l.length) false := by
  induction l with
  | nil => rfl
  | cons a l ih =>
    have e : difI a a = 0 := by unfold difI wrap64; simp
    have s0 : smallB 0 = [false, false] := by decide
    simp only [difB, List.headD_cons, List.tail_cons, e, zgN_zero, s0, ih, List.length_cons]
    rw [show 2 * (l.length + 1) = 2 * l.length + 1 + 1 by omega, List.replicate_succ, List.replicate_succ]
    rfl
/-- A histogram that stays takes one bit, and two for each of its counts. -/
theorem nextH_same (n : Nat) (h : HistV) (hn : 0 < n) : (nextH n h h).length = 1 + 2 * (1 + h.pl.length + h.nl.length) := by
  unfold nextH
  rw [if_pos ⟨hn, rfl, rfl, rfl, rfl, rfl⟩, difB_same, List.length_cons, List.length_replicate, cntL_length]
  omega

/-- A writer and a row, both behind W. -/
structure HB (W w : World) (p r : Nat) (v : Value) (bs : List Bool) (n : Nat) (h : HistV) (pv nv : Value) : Prop where
  bw : BwAt w W.heap.size p v bs
  row : HRow w r n h pv nv
  mp : Mine W w 28 pv (uvals h.pl)
  mn : Mine W w 28 nv (uvals h.nl)
  rb : W.heap.size ≤ r
section
variable {W w w' : World} {p r n : Nat} {v pv nv : Value} {bs bs' : List Bool} {h h2 : HistV}
theorem HB.ne (x : HB W w p r v bs n h pv nv) : r ≠ p ∧ v.ownBlock ≠ some r := by
  refine ⟨?_, own_box x.bw.owns x.row (by decide)⟩
  rintro rfl
  have h1 := x.row
  unfold HRow at h1
  rw [x.bw.box] at h1
  injection h1 with h1
  injection h1 with _ h1
  exact absurd h1 (by decide)
theorem HB.on (x : HB W w p r v bs n h pv nv) (k : Kept (fun _ => False) w w') : HB W w' p r v bs n h pv nv := ⟨x.bw.keptF k, x.row.same k (fun x => x), x.mp.on k, x.mn.on k, x.rb⟩
theorem mine_bw {xs : List Value} {u : Value} (m : Mine W w 28 u xs) (b : BwAt w W.heap.size p v bs) : ∀ k, u.ownBlock = some k → ¬ (k = p ∨ v.ownBlock = some k) := by
  rintro k e (rfl | e2)
  · exact own_box m.own b.box (by decide) e
  · obtain ⟨cur, hc⟩ := ownsRow_block b.owns e2
    exact own_box m.own hc (by decide) e
theorem HB.to (x : HB W w p r v bs n h pv nv) (t : BwTo w w' W.heap.size p v bs') : ∃ v', HB W w' p r v' bs' n h pv nv := by
  obtain ⟨v', hb, _, hk⟩ := t
  have hbase : ∀ k, (k = p ∨ v.ownBlock = some k) → W.heap.size ≤ k := by
    rintro k (rfl | e)
    · exact x.bw.base
    · exact (ownsRow_lt x.bw.owns e).2
  refine ⟨v', hb, x.row.same hk ?_, x.mp.keptS hk (mine_bw x.mp x.bw) hbase, x.mn.keptS hk (mine_bw x.mn x.bw) hbase, x.rb⟩
  rintro (e | e)
  · exact x.ne.1 e
  · exact x.ne.2 e
theorem HB.gone (x : HB W w p r v bs n h pv nv) (g : GoneOn r n h h2 pv nv w w') : ∃ p' n', HB W w' p r v bs (n + 1) h2 p' n' := by
  obtain ⟨p', n', w1, hr, m1, m2, hr1, hk⟩ := g
  have k1 := m1.kept
  have b1 := x.bw.keptF k1
  have y := x.on k1
  have n1 := (m1.down x.mp.kept).keptS hk (fun k e e2 => mine_hrow m1 hr1 (by rw [e, e2])) (fun k e => by rw [e]; exact x.rb)
  have n2 := (m2.down x.mp.kept).keptS hk (fun k e e2 => mine_hrow m2 hr1 (by rw [e, e2])) (fun k e => by rw [e]; exact x.rb)
  exact ⟨p', n', b1.kept hk (fun e => x.ne.1 e.symm) (fun k e e2 => x.ne.2 (by rw [e, e2])), hr, n1, n2, x.rb⟩
end
end Go.Proofs.YtjpnfadmblmjbaaDoor
/- package histbits: putShape. -/
namespace Go.Proofs.YtjpnfadmblmjbaaDoor
open Go.RowKit
attribute [local go_sem ↓] Go.wp_at_zero Go.wp_at_succ

theorem zgN_eq (a : Int) (h0 : -9223372036854775808 ≤ a) (h1 : a ≤ 9223372036854775807) : zigI a = (zgN a : Int) ∧ zgN a < 18446744073709551616 := by
  unfold zgN zigI
  split <;> omega
theorem smallB_len (v : Nat) : (smallB v).length ≤ 66 := by
  unfold smallB
  have hc := classN_le v
  rw [List.length_append, bitsN_length, bitsN_length]
  have hcc : classN v = 0 ∨ classN v = 1 ∨ classN v = 2 ∨ classN v = 3 := by omega
  rcases hcc with h | h | h | h <;> rw [h] <;> decide
theorem sideB_len (o : Int) (n : Nat) : (sideB o n).length ≤ 74 := by
  unfold sideB
  rw [List.length_append, bitsN_length]
  split
  · simp
  · have := smallB_len (zgN o); omega
theorem keptTo {S : Nat → Prop} {w w' : World} (h : Kept (fun _ => False) w w') : Kept S w w' := by
  obtain ⟨a, b, c, d, e⟩ := h
  exact ⟨a, b, c, d, fun j hj _ => e j hj (fun x => x)⟩
/-- A writer that something was done beside. -/
theorem BwAt.beside {w w' : World} {B p : Nat} {v : Value} {bs : List Bool} (h : BwAt w B p v bs) (k : Kept (fun _ => False) w w') : BwTo w w' B p v bs := ⟨v, h.keptF k, .inl rfl, keptTo k⟩
/-- What is newer than the writer stays. -/
theorem BwTo.newer {w w' : World} {B p q : Nat} {v : Value} {bs' : List Bool} {o : Obj} (t : BwTo w w' B p v bs') (hq : w.heap[q]? = some o) (h1 : q ≠ p) (h2 : v.ownBlock ≠ some q) : w'.heap[q]? = some o := by
  obtain ⟨v', _, _, hk⟩ := t
  exact hk.same hq (by rintro (e | e); exact h1 e; exact h2 e)
theorem box2s {w : World} {g : Nat} {a b : Value} {T : TypeId} (h : w.heap[g]? = some (.cells #[a, b] T (0, 0))) : w.cell? ⟨g, 0, none⟩ = some a ∧ w.cell? ⟨g, 1, none⟩ = some b :=
  ⟨by rw [cell_of_row _ _ 0 _ _ _ h]; rfl, by rw [cell_of_row _ _ 1 _ _ _ h]; rfl⟩
end Go.Proofs.YtjpnfadmblmjbaaDoor
/- package histbits: putShape. -/
namespace Go.Proofs.YtjpnfadmblmjbaaDoor
open Go.RowKit
attribute [local go_sem ↓] Go.wp_at_zero Go.wp_at_succ

theorem BwTo.ahead {w w0 w1 : World} {B p : Nat} {v : Value} {bs' : List Bool} (k : Kept (fun _ => False) w w0) (t : BwTo w0 w1 B p v bs') : BwTo w w1 B p v bs' := by
  obtain ⟨v1, a1, a2, a3⟩ := t
  refine ⟨v1, a1, ?_, (keptTo k).step a3 (fun k _ e => e)⟩
  rcases a2 with e | ⟨g, e, hg⟩
  · exact .inl e
  · exact .inr ⟨g, e, by have := k.size; omega⟩

set_option maxHeartbeats 4000000 in
set_option maxRecDepth 100000 in
theorem putShape_any (B p : Nat) (v : Value) (bs : List Bool) (h : HistV) (w : World) (HW : BwAt w B p v bs) (hB0 : 0 < B) (hB : B ≤ w.heap.size) (hl : bs.length ≤ 100000000) (HT : ClassTab w)
    (hs : -10 ≤ h.sc ∧ h.sc ≤ 20) (hp : h.pl.length ≤ 160) (hn : h.nl.length ≤ 160) (ho : I64 h.po) (hno : I64 h.no) :
    Calls Tryd.prog 67 #[.pointer (some ⟨p, 0, none⟩), shapeV h] w fun e w' => e = .returned (.tuple #[]) ∧ BwTo w w' B p v (bs ++ shapeB h) := by
  obtain ⟨sc, ze, po, pl, no, nl⟩ := h
  unfold shapeV
  simp only at hs hp hn ho hno ⊢
  obtain ⟨SC, hSC⟩ : ∃ k : Nat, k = (sc + 10).toNat := ⟨_, rfl⟩
  have s1 : sc - -10 = (SC : Int) := by omega
  have s2 : sc + 10 = (SC : Int) := by omega
  have s3 : IntKind.i64.wrap (SC : Int) = (SC : Int) := IntWalk.i64_in _ ⟨by omega, by omega⟩
  have s4 : IntKind.u64.wrap (SC : Int) = (SC : Int) := by rw [IntKind.wrap_u64]; omega
  have HSB := Lib.hid (show shapeB ⟨sc, ze, po, pl, no, nl⟩ = bitsN SC 5 ++ sideB po pl.length ++ sideB no nl.length by unfold shapeB; rw [← hSC])
  obtain ⟨pn, hpn⟩ : ∃ n, n = pl.length := ⟨_, rfl⟩
  obtain ⟨nn, hnn⟩ : ∃ n, n = nl.length := ⟨_, rfl⟩
  rw [← hpn, ← hnn] at HSB
  rw [← hpn] at hp ⊢
  rw [← hnn] at hn ⊢
  have HO := Lib.hid (And.intro ho hno)
  have HB0 := Lib.hid (And.intro hB0 hB)
  have HBW := Lib.hid HW
  have HTT := Lib.hid HT
  have HL := Lib.hid hl
  have HP := Lib.hid (And.intro hp hn)
  have hsc5 : SC < 2 ^ 5 := by simp; omega
  have HS5 := Lib.hid hsc5
  have u1 : IntKind.u64.wrap (pn : Int) = (pn : Int) := by rw [IntKind.wrap_u64]; omega
  have u2 : IntKind.u64.wrap (nn : Int) = (nn : Int) := by rw [IntKind.wrap_u64]; omega
  obtain ⟨w0, hw0⟩ : ∃ w0, w0 = w.alloc (.cells #[.int .i64 sc, .int .i64 po, .int .i64 (pn : Int), .int .i64 no, .int .i64 (nn : Int)] 101) := ⟨_, rfl⟩
  have hk0 : Kept (fun _ => False) w w0 := by rw [hw0]; exact (Kept.refl _ _).alloc _
  have hb0 : w0.heap[w.heap.size]? = some (.cells #[.int .i64 sc, .int .i64 po, .int .i64 (pn : Int), .int .i64 no, .int .i64 (nn : Int)] 101 (0, 0)) := by rw [hw0]; exact heap_alloc_new w _
  obtain ⟨q, hq⟩ : ∃ q, q = w.heap.size := ⟨_, rfl⟩
  rw [← hq] at hb0
  have HK0 := Lib.hid hk0
  have HBX := Lib.hid hb0
  have HW0 := Lib.hid hw0
  have HQ := Lib.hid hq
  have hc := fun j => cell_of_row _ q j _ _ _ hb0
  have x0 : w0.cell? ⟨q, 0, none⟩ = some (.int .i64 sc) := (hc 0).trans rfl
  clear hpn hnn ho hno hB0 hB HW HT hl hs hSC hsc5 hk0 hb0 hw0 hq hc s2 hp hn
  go_enter Tryd.func67, Tryd.ntmps67
  go_upto_region 1 with fail
  rw [← HW0.out, ← HQ.out]
  go_wp2_with fail
  refine (bput_yes B p v bs SC 5 w0 (HBW.out.keptF HK0.out) (by have := HB0.out; have := HK0.out.size; omega) (by omega) HS5.out (by have := HL.out; omega)).mono ?_
  rintro e w1 ⟨rfl, t1⟩
  have hqp : q ≠ p := by have := HBW.out.lt; have := HQ.out; omega
  have hqv : v.ownBlock ≠ some q := fun e => by have := (ownsRow_lt HBW.out.owns e).1; have := HQ.out; omega
  have hb1 := BwTo.newer t1 HBX.out hqp hqv
  obtain ⟨v0, c0, z0, HC0⟩ := (HBW.out.beside HK0.out).part
  have hT1 : BwTo w w1 B p v (bs ++ bitsN SC 5) := by
    obtain ⟨v1, a1, a2, a3⟩ := t1
    exact ⟨v1, a1, by
      rcases a2 with e | ⟨g, e, hg⟩
      · exact .inl e
      · exact .inr ⟨g, e, by have := HK0.out.size; omega⟩, (keptTo HK0.out).step a3 (fun k _ e => e)⟩
  have HT1 := Lib.hid hT1
  have hc := fun j => cell_of_row _ q j _ _ _ hb1
  have x1 : w1.cell? ⟨q, 1, none⟩ = some (.int .i64 po) := (hc 1).trans rfl
  have x2 : w1.cell? ⟨q, 2, none⟩ = some (.int .i64 (pn : Int)) := (hc 2).trans rfl
  have x3 : w1.cell? ⟨q, 3, none⟩ = some (.int .i64 no) := (hc 3).trans rfl
  have x4 : w1.cell? ⟨q, 4, none⟩ = some (.int .i64 (nn : Int)) := (hc 4).trans rfl
  clear t1 hT1 hc hqp hqv c0 z0 HC0 hb1 x0
  go_wp2
  go_loopg [25] 2 (fun x s25 wr => ∃ k : Nat, k ≤ 2 ∧ x = 2 - k ∧ s25 = .int .i64 k ∧ ((k = 0 ∧ BwTo w wr B p v (bs ++ bitsN SC 5)) ∨ (k = 1 ∧ BwTo w wr B p v (bs ++ bitsN SC 5 ++ sideB po pn)) ∨ (k = 2 ∧ BwTo w wr B p v (bs ++ bitsN SC 5 ++ sideB po pn ++ sideB no nn))))
  case atStart => exact ⟨0, by omega, rfl, rfl, .inl ⟨rfl, HT1.out⟩⟩
  case round =>
    obtain ⟨k, hk, rfl, rfl, ⟨rfl, ht⟩ | ⟨rfl, ht⟩ | ⟨rfl, ht⟩⟩ := hrel <;> clear hk
    · have HT2 := Lib.hid ht
      obtain ⟨v2, b2, z2, HC2⟩ := ht.part
      have HB2 := Lib.hid b2
      have HZ2 := Lib.hid z2
      have ix : ∀ w, (Instr.index 120 (.agg #[.int .i64 po, .int .i64 (pn : Int), .int .i64 no, .int .i64 (nn : Int)]) (.int .i64 0)).run Tryd.prog w = .ok (.agg #[.int .i64 po, .int .i64 (pn : Int)]) w := fun _ => by kernel_rfl
      have hba := heap_alloc_new wr (.cells #[.int .i64 po, .int .i64 (pn : Int)] 119)
      have HKA := Lib.hid ((Kept.refl (fun _ => False) wr).alloc (.cells #[.int .i64 po, .int .i64 (pn : Int)] 119))
      obtain ⟨w4, hw4⟩ : ∃ w', w' = wr.alloc (.cells #[.int .i64 po, .int .i64 (pn : Int)] 119) := ⟨_, rfl⟩
      obtain ⟨q4, hq4⟩ : ∃ x, x = wr.heap.size := ⟨_, rfl⟩
      rw [← hw4] at HKA hba
      rw [← hq4] at hba
      have HW4 := Lib.hid hw4
      have HQ4 := Lib.hid hq4
      obtain ⟨y0, y1⟩ := box2s hba
      clear ht b2 z2 hw4 hq4 hba
      go_upto_region 5 with fail
      rw [← HW4.out, ← HQ4.out]
      go_quiet (fail)
      go_wp2_with fail
      refine (bput_yes B p v2 _ pn 8 _ (HB2.out.keptF (HKA.out.drewN _)) (by have h1 := HB0.out; have h2 := HZ2.out; have h3 := (HKA.out.drewN (S := fun _ => False) (n := 0)).size; have h4 := HKA.out.size; simp; omega) (by omega) (by have := HP.out; simp; omega) (by have := HL.out; have := sideB_len po pn; simp only [List.length_append, bitsN_length]; omega)).mono ?_
      rintro e w5 ⟨rfl, t5⟩
      have HT5 := Lib.hid (HC2.out _ _ (BwTo.ahead (HKA.out.drewN _) t5))
      clear t5 y0 y1
      by_cases h0 : pn = 0
      · have g0 : ¬ (0 : Int) < (pn : Int) := by omega
        have HE := Lib.hid (show sideB po pn = bitsN pn 8 by unfold sideB; rw [if_pos h0, List.append_nil])
        clear h0
        go_wp2
        go_roundg 1
        case measure => omega
        case rel => exact ⟨1, by omega, by omega, rfl, .inr (.inl ⟨rfl, by rw [HE.out]; exact HT5.out⟩)⟩
      · have g0 : (0 : Int) < (pn : Int) := by omega
        have HE := Lib.hid (show sideB po pn = bitsN pn 8 ++ smallB (zgN po) by unfold sideB; rw [if_neg h0])
        obtain ⟨v5, b5, z5, HC5⟩ := HT5.out.part
        have hz := zgN_eq po HO.out.1.1 HO.out.1.2
        have HPI := Lib.hid (varyPutInt_any B p v5 _ po (zgN po) w5 b5 HB0.out.1 (by have := HB0.out.2; omega) HO.out.1.1 HO.out.1.2 hz.1 hz.2 (by have := HL.out; have := sideB_len po pn; simp only [List.length_append, bitsN_length]; omega) (HTT.out.bw HBW.out HB0.out.1 HT5.out))
        clear h0 b5 z5 hz
        go_wp2_with fail
        refine HPI.out.mono ?_
        rintro e w6 ⟨rfl, t6⟩
        have HT6 := Lib.hid (HC5.out _ _ t6)
        clear t6
        go_wp2
        go_roundg 1
        case measure => omega
        case rel => exact ⟨1, by omega, by omega, rfl, .inr (.inl ⟨rfl, by rw [HE.out, ← List.append_assoc]; exact HT6.out⟩)⟩
    · have HT2 := Lib.hid ht
      obtain ⟨v2, b2, z2, HC2⟩ := ht.part
      have HB2 := Lib.hid b2
      have HZ2 := Lib.hid z2
      have ix : ∀ w, (Instr.index 120 (.agg #[.int .i64 po, .int .i64 (pn : Int), .int .i64 no, .int .i64 (nn : Int)]) (.int .i64 1)).run Tryd.prog w = .ok (.agg #[.int .i64 no, .int .i64 (nn : Int)]) w := fun _ => by kernel_rfl
      have hba := heap_alloc_new wr (.cells #[.int .i64 no, .int .i64 (nn : Int)] 119)
      have HKA := Lib.hid ((Kept.refl (fun _ => False) wr).alloc (.cells #[.int .i64 no, .int .i64 (nn : Int)] 119))
      obtain ⟨w4, hw4⟩ : ∃ w', w' = wr.alloc (.cells #[.int .i64 no, .int .i64 (nn : Int)] 119) := ⟨_, rfl⟩
      obtain ⟨q4, hq4⟩ : ∃ x, x = wr.heap.size := ⟨_, rfl⟩
      rw [← hw4] at HKA hba
      rw [← hq4] at hba
      have HW4 := Lib.hid hw4
      have HQ4 := Lib.hid hq4
      obtain ⟨y0, y1⟩ := box2s hba
      clear ht b2 z2 hw4 hq4 hba
      go_upto_region 5 with fail
      rw [← HW4.out, ← HQ4.out]
      go_quiet (fail)
      go_wp2_with fail
      refine (bput_yes B p v2 _ nn 8 _ (HB2.out.keptF (HKA.out.drewN _)) (by have h1 := HB0.out; have h2 := HZ2.out; have h3 := (HKA.out.drewN (S := fun _ => False) (n := 0)).size; have h4 := HKA.out.size; simp; omega) (by omega) (by have := HP.out; simp; omega) (by have := HL.out; have := sideB_len po pn; simp only [List.length_append, bitsN_length]; omega)).mono ?_
      rintro e w5 ⟨rfl, t5⟩
      have HT5 := Lib.hid (HC2.out _ _ (BwTo.ahead (HKA.out.drewN _) t5))
      clear t5 y0 y1
      by_cases h0 : nn = 0
      · have g0 : ¬ (0 : Int) < (nn : Int) := by omega
        have HE := Lib.hid (show sideB no nn = bitsN nn 8 by unfold sideB; rw [if_pos h0, List.append_nil])
        clear h0
        go_wp2
        go_roundg 0
        case measure => omega
        case rel => exact ⟨2, by omega, by omega, rfl, .inr (.inr ⟨rfl, by rw [HE.out]; exact HT5.out⟩)⟩
      · have g0 : (0 : Int) < (nn : Int) := by omega
        have HE := Lib.hid (show sideB no nn = bitsN nn 8 ++ smallB (zgN no) by unfold sideB; rw [if_neg h0])
        obtain ⟨v5, b5, z5, HC5⟩ := HT5.out.part
        have hz := zgN_eq no HO.out.2.1 HO.out.2.2
        have HPI := Lib.hid (varyPutInt_any B p v5 _ no (zgN no) w5 b5 HB0.out.1 (by have := HB0.out.2; omega) HO.out.2.1 HO.out.2.2 hz.1 hz.2 (by have := HL.out; have := sideB_len po pn; simp only [List.length_append, bitsN_length]; omega) (HTT.out.bw HBW.out HB0.out.1 HT5.out))
        clear h0 b5 z5 hz
        go_wp2_with fail
        refine HPI.out.mono ?_
        rintro e w6 ⟨rfl, t6⟩
        have HT6 := Lib.hid (HC5.out _ _ t6)
        clear t6
        go_wp2
        go_roundg 0
        case measure => omega
        case rel => exact ⟨2, by omega, by omega, rfl, .inr (.inr ⟨rfl, by rw [HE.out, ← List.append_assoc]; exact HT6.out⟩)⟩
    · have HT2 := Lib.hid ht
      clear ht
      go_wp2
      go_end0
      refine ⟨rfl, ?_⟩
      rw [HSB.out, ← List.append_assoc, ← List.append_assoc]
      exact HT2.out
end Go.Proofs.YtjpnfadmblmjbaaDoor
/- package histbits: what Put needs, plainly. -/
namespace Go.Proofs.YtjpnfadmblmjbaaDoor
open Go.RowKit

theorem getD_cntL (h : HistV) (hok : h.ok) (j : Nat) : (cntL h).getD j 0 < 18446744073709551616 := by
  refine getD_u64 (fun x hx => ?_) j
  unfold cntL at hx
  rcases List.mem_cons.1 hx with rfl | hx
  · exact hok.ze
  · rcases List.mem_append.1 hx with hx | hx
    · exact hok.pl x hx
    · exact hok.nl x hx
theorem difB_len (l m : List Nat) : (difB l m).length ≤ 66 * l.length := by
  induction l generalizing m with
  | nil => simp [difB]
  | cons a l ih =>
    simp only [difB, List.length_append, List.length_cons]
    have := ih m.tail
    have := smallB_len (zgN (difI a (m.headD 0)))
    omega
theorem difB_take (l m : List Nat) (i : Nat) (h : i < l.length) : difB (l.take (i + 1)) m = difB (l.take i) m ++ smallB (zgN (difI (l.getD i 0) (m.getD i 0))) := by
  induction l generalizing m i with
  | nil => simp at h
  | cons a l ih =>
    cases i with
    | zero =>
      have e : m.headD 0 = m.getD 0 0 := by cases m <;> rfl
      simp only [Nat.zero_add, List.take_succ_cons, List.take_zero, difB, List.getD_cons_zero, List.nil_append, List.append_nil]
      rw [e]
    | succ i =>
      have e : m.tail.getD i 0 = m.getD (i + 1) 0 := by cases m <;> simp
      simp only [List.take_succ_cons, difB, List.append_assoc]
      rw [ih m.tail i (by simpa using h), e, List.getD_cons_succ]
theorem smalls_len (l : List Nat) : (l.flatMap smallB).length ≤ 66 * l.length := by
  induction l with
  | nil => simp
  | cons a l ih =>
    simp only [List.flatMap_cons, List.length_append, List.length_cons]
    have := smallB_len a
    omega
theorem smalls_take (l : List Nat) (i : Nat) (h : i < l.length) : (l.take (i + 1)).flatMap smallB = (l.take i).flatMap smallB ++ smallB (l.getD i 0) := by
  have e : l.getD i 0 = l[i] := by rw [List.getD_eq_getElem?_getD, List.getElem?_eq_getElem h]; rfl
  rw [List.take_add_one, List.flatMap_append, List.getElem?_eq_getElem h, e]
  simp
theorem shapeB_len (h : HistV) : (shapeB h).length ≤ 153 := by
  unfold shapeB
  rw [List.length_append, List.length_append, bitsN_length]
  have := sideB_len h.po h.pl.length
  have := sideB_len h.no h.nl.length
  omega
theorem nextH_len (n : Nat) (g h : HistV) : (nextH n g h).length ≤ 154 + 66 * (cntL h).length := by
  unfold nextH
  split
  · rw [List.length_cons]
    have := difB_len (cntL h) (cntL g)
    omega
  · rw [List.length_cons, List.length_append]
    have := smalls_len (cntL h)
    have := shapeB_len h
    omega
/-- The counts of two histograms of one shape are as many. -/
theorem alikeH.cnt {g h : HistV} (a : alikeH h g) : (cntL g).length = (cntL h).length := by
  rw [cntL_length, cntL_length]
  obtain ⟨_, _, a1, _, a2⟩ := a
  omega
theorem difI_range (a b : Nat) : -9223372036854775808 ≤ difI a b ∧ difI a b ≤ 9223372036854775807 := by unfold difI wrap64; omega
/-- The difference of two counts as the program forms it. -/
theorem difI_wrap (a b : Nat) : IntKind.i64.wrap (IntKind.u64.wrap ((a : Int) - (b : Int))) = difI a b := by
  rw [IntKind.wrap_u64, IntKind.wrap_i64]
  unfold difI wrap64
  omega
theorem shapeV_iff (g h : HistV) : (shapeV h = shapeV g) ↔ alikeH h g := by
  unfold shapeV alikeH
  constructor
  · intro e
    injection e with e
    simp only [Array.mk.injEq, List.cons.injEq, Value.int.injEq, true_and, and_true] at e
    omega
  · rintro ⟨a, b, c, d, e⟩
    rw [a, b, c, d, e]

theorem ifs5 {α : Type} {a b : α} {A B C D E : Prop} [Decidable A] [Decidable B] [Decidable C] [Decidable D] [Decidable E] (h : ¬ (A ∧ B ∧ C ∧ D ∧ E)) :
    (if A then if B then if C then if D then if E then a else b else b else b else b else b) = b := by
  by_cases h1 : A
  · rw [if_pos h1]
    by_cases h2 : B
    · rw [if_pos h2]
      by_cases h3 : C
      · rw [if_pos h3]
        by_cases h4 : D
        · rw [if_pos h4, if_neg (fun h5 => h ⟨h1, h2, h3, h4, h5⟩)]
        · rw [if_neg h4]
      · rw [if_neg h3]
    · rw [if_neg h2]
  · rw [if_neg h1]

/-- A row whose writer got the bits, then went on by h: where all lies behind. -/
def PutTo (W w w' : World) (p r : Nat) (v : Value) (bs : List Bool) (n : Nat) (h : HistV) : Prop :=
  ∃ v' pv nv, HB W w' p r v' bs n h pv nv ∧ (v'.ownBlock = v.ownBlock ∨ ∃ k, v'.ownBlock = some k ∧ w.heap.size ≤ k) ∧ Kept (fun k => k = p ∨ k = r ∨ v.ownBlock = some k) w w'
theorem BwTo.part2 {w w1 : World} {B p : Nat} {v : Value} {bs1 : List Bool} (h : BwTo w w1 B p v bs1) :
    ∃ v1, BwAt w1 B p v1 bs1 ∧ (v1.ownBlock = v.ownBlock ∨ ∃ k, v1.ownBlock = some k ∧ w.heap.size ≤ k) ∧ Kept (fun k => k = p ∨ v.ownBlock = some k) w w1 ∧ Hid (∀ w2 l2, BwTo w1 w2 B p v1 l2 → BwTo w w2 B p v l2) := by
  obtain ⟨v1, h1, a1, k1⟩ := h
  refine ⟨v1, h1, a1, k1, fun w2 l2 k => ?_⟩
  obtain ⟨v2, h2, a2, k2⟩ := k
  refine ⟨v2, h2, ?_, k1.step k2 ?_⟩
  · rcases a2 with a2 | ⟨g, e, hg⟩
    · rw [a2]
      rcases a1 with a1 | a1
      · exact .inl a1
      · exact .inr a1
    · exact .inr ⟨g, e, Nat.le_trans k1.size hg⟩
  · intro k hk hS
    rcases hS with rfl | hS
    · exact .inl rfl
    · rcases a1 with a1 | ⟨g, e, hg⟩
      · exact .inr (a1 ▸ hS)
      · rw [e] at hS; cases hS; omega
section
variable {W w w5 w6 : World} {p r n : Nat} {v v' pv nv : Value} {bs bs5 : List Bool} {h h2 : HistV}
theorem HB.base (x : HB W w p r v bs n h pv nv) : ∀ k, (k = p ∨ v.ownBlock = some k) → W.heap.size ≤ k := by
  rintro k (rfl | e)
  · exact x.bw.base
  · exact (ownsRow_lt x.bw.owns e).2
theorem HB.wrote (x : HB W w p r v bs n h pv nv) (hb : BwAt w5 W.heap.size p v' bs5) (hk : Kept (fun k => k = p ∨ v.ownBlock = some k) w w5) : HB W w5 p r v' bs5 n h pv nv := by
  refine ⟨hb, x.row.same hk ?_, x.mp.keptS hk (mine_bw x.mp x.bw) x.base, x.mn.keptS hk (mine_bw x.mn x.bw) x.base, x.rb⟩
  rintro (e | e)
  · exact x.ne.1 e
  · exact x.ne.2 e
theorem HB.put (x : HB W w p r v bs n h pv nv) (t : BwTo w w5 W.heap.size p v bs5) (g : GoneOn r n h h2 pv nv w5 w6) : PutTo W w w6 p r v bs5 (n + 1) h2 := by
  obtain ⟨v', hb, hv', hk⟩ := t
  have y := x.wrote hb hk
  obtain ⟨p', n', w1, hr, m1, m2, hr1, hk1⟩ := g
  have k1 := m1.kept
  have n1 := (m1.down y.mp.kept).keptS hk1 (fun k e e2 => mine_hrow m1 hr1 (by rw [e, e2])) (fun k e => by rw [e]; exact y.rb)
  have n2 := (m2.down y.mp.kept).keptS hk1 (fun k e e2 => mine_hrow m2 hr1 (by rw [e, e2])) (fun k e => by rw [e]; exact y.rb)
  have b1 := hb.keptF k1
  refine ⟨v', p', n', ⟨b1.kept hk1 (fun e => y.ne.1 e.symm) (fun k e e2 => y.ne.2 (by rw [e, e2])), hr, n1, n2, y.rb⟩, hv', ?_⟩
  obtain ⟨c1, c2, c3, c4, c5⟩ := hk
  have ka : Kept (fun k => k = p ∨ k = r ∨ v.ownBlock = some k) w w5 := by
    refine ⟨c1, c2, c3, c4, fun j hj hn => c5 j hj (fun e => hn ?_)⟩
    rcases e with e | e
    · exact .inl e
    · exact .inr (.inr e)
  exact (ka.step k1 (fun k _ e => e.elim)).step hk1 (fun k _ e => .inr (.inl e))
theorem PutTo.ahead (k : Kept (fun _ => False) w w5) (t : PutTo W w5 w6 p r v bs n h) : PutTo W w w6 p r v bs n h := by
  obtain ⟨v', a, b, x, o, hk⟩ := t
  refine ⟨v', a, b, x, ?_, (keptTo k).step hk (fun _ _ e => e)⟩
  rcases o with o | ⟨g, e, hg⟩
  · exact .inl o
  · exact .inr ⟨g, e, Nat.le_trans k.size hg⟩
/-- Counts that were made stay while the writer writes. -/
theorem Mine.wrote {W1 : World} {u : Value} {xs : List Value} {B : Nat} (m : Mine W1 w 28 u xs) (b : BwAt w B p v bs) (t : BwTo w w5 B p v bs5) : SlAt w5 u xs := by
  obtain ⟨_, _, _, hk⟩ := t
  refine m.at_.kept hk ?_
  rintro k e (rfl | e2)
  · exact own_box m.own b.box (by decide) e
  · obtain ⟨cur, hc⟩ := ownsRow_block b.owns e2
    exact own_box m.own hc (by decide) e
theorem HRow.wrote {B : Nat} (x : HRow w r n h pv nv) (h1 : r ≠ p) (h2 : v.ownBlock ≠ some r) (t : BwTo w w5 B p v bs5) : HRow w5 r n h pv nv := BwTo.newer t x h1 h2
theorem slAt_keptE {S : Nat → Prop} {w w' : World} {v : Value} {xs : List Value} (h : SlAt w v xs) (k : Kept S w w') (hn : xs ≠ [] → ∀ j, v.ownBlock = some j → ¬ S j) : SlAt w' v xs := by
  by_cases h0 : xs = []
  · subst h0
    obtain ⟨ao, c, e, hz, _⟩ := h.val
    exact ⟨ao, c, e, hz, fun a ha j u hu => by simp at hu⟩
  · exact h.kept k (hn h0)
theorem slAt_old {w : World} {v : Value} {xs : List Value} (h : SlAt w v xs) (h0 : xs ≠ []) (j : Nat) (e : v.ownBlock = some j) : j < w.heap.size := by
  obtain ⟨ao, c, rfl, _, _⟩ := h.val
  have hp : 0 < xs.length := by cases xs with | nil => exact absurd rfl h0 | cons => simp
  obtain ⟨g, off, rfl, hc⟩ := h.elem (u := xs[0]) (List.getElem?_eq_getElem hp)
  have : g = j := by simpa [Value.ownBlock] using e
  subst this
  exact World.block_lt_of_cell? _ _ hc
theorem uvals_ne {l : List Nat} (h : uvals l ≠ []) : l ≠ [] := by rintro rfl; exact h rfl
/-- Counts that lie in none of the blocks that the writer may change. -/
def Apart (p : Nat) (v : Value) (h : HistV) (pv nv : Value) : Prop := ∀ k, (k = p ∨ v.ownBlock = some k) → (h.pl ≠ [] → pv.ownBlock ≠ some k) ∧ (h.nl ≠ [] → nv.ownBlock ≠ some k)
theorem HistAt.wrote {B : Nat} (x : HistAt w h pv nv) (hap : Apart p v h pv nv) (t : BwTo w w5 B p v bs5) : HistAt w5 h pv nv := by
  obtain ⟨_, _, _, hk⟩ := t
  exact ⟨slAt_keptE x.p hk (fun h0 k e hs => (hap k hs).1 (uvals_ne h0) e), slAt_keptE x.n hk (fun h0 k e hs => (hap k hs).2 (uvals_ne h0) e)⟩
theorem uvals_ne' {l : List Nat} (h : l ≠ []) : uvals l ≠ [] := by cases l with | nil => exact absurd rfl h | cons => simp [uvals]
/-- What is older than the writer is apart from it. -/
theorem Apart.older (x : HistAt W h pv nv) (hb : ∀ k, (k = p ∨ v.ownBlock = some k) → W.heap.size ≤ k) : Apart p v h pv nv := by
  intro k hk
  have h1 := hb k hk
  exact ⟨fun h0 e => by have := slAt_old x.p (uvals_ne' h0) k e; omega, fun h0 e => by have := slAt_old x.n (uvals_ne' h0) k e; omega⟩
end
end Go.Proofs.YtjpnfadmblmjbaaDoor
/- package bitio: NewReader. -/
namespace Go.Proofs.YtjpnfadmblmjbaaDoor
open Go.RowKit
attribute [local go_sem ↓] Go.wp_at_zero Go.wp_at_succ

theorem any_bitsN (b k : Nat) : (bitsN b k).any id = decide (b % 2 ^ k ≠ 0) := by
  rw [Bool.eq_iff_iff, List.any_eq_true, decide_eq_true_iff]
  constructor
  · rintro ⟨x, hx, hid⟩
    simp only [id] at hid
    subst hid
    obtain ⟨i, hi, e⟩ := List.getElem_of_mem hx
    have h1 := bitsN_get b k i
    rw [List.getElem?_eq_getElem hi, e] at h1
    rw [bitsN_length] at hi
    rw [if_pos hi] at h1
    intro h0
    have h2 := Nat.testBit_mod_two_pow b k (k - 1 - i)
    rw [h0] at h2
    injection h1 with h1
    rw [← h1] at h2
    simp at h2
    omega
  · intro h0
    obtain ⟨i, hi⟩ := Nat.exists_testBit_of_ne_zero h0
    rw [Nat.testBit_mod_two_pow] at hi
    simp at hi
    refine ⟨true, ?_, rfl⟩
    have h1 := bitsN_get b k (k - 1 - i)
    rw [if_pos (by omega)] at h1
    have e : k - 1 - (k - 1 - i) = i := by omega
    rw [e, hi.2] at h1
    exact List.mem_of_getElem? h1

/-- What NewReader says. -/
def openE (l : List Nat) (n : Int) : Nat :=
  if n < 0 then 1 else if 8 * (l.length : Int) < n then 2 else if 7 < 8 * (l.length : Int) - n then 3 else if ((bitsOf l).drop n.toNat).any id then 3 else 0

theorem bitsOf_drop (l : List Nat) (n : Nat) (h1 : n ≤ 8 * l.length) (h2 : 8 * l.length ≤ n + 7) (h3 : 0 < n % 8) : (bitsOf l).drop n = bitsN (l.getD (n / 8) 0) (8 - n % 8) := by
  have hq : n / 8 < l.length := by omega
  have hsp : l = l.take (n / 8) ++ [l.getD (n / 8) 0] := by
    have h4 : l.take (n / 8 + 1) = l := List.take_of_length_le (by omega)
    rw [List.take_succ_eq_append_getElem hq] at h4
    rw [List.getD_eq_getElem?_getD, List.getElem?_eq_getElem hq]
    exact h4.symm
  obtain ⟨b, hb⟩ : ∃ b, b = l.getD (n / 8) 0 := ⟨_, rfl⟩
  rw [← hb] at hsp ⊢
  rw [hsp, bitsOf_append, List.drop_append, List.drop_eq_nil_of_le (by rw [bitsOf_length, List.length_take]; omega), List.nil_append, bitsOf_length, List.length_take, Nat.min_eq_left (by omega)]
  have e : n - 8 * (n / 8) = n % 8 := by omega
  rw [e]
  have e2 : bitsOf [b] = bitsN (b / 2 ^ (8 - n % 8)) (n % 8) ++ bitsN b (8 - n % 8) := by
    rw [← bitsN_add]
    have e3 : n % 8 + (8 - n % 8) = 8 := by omega
    rw [e3]; simp [bitsOf]
  rw [e2, List.drop_append, List.drop_eq_nil_of_le (by simp), bitsN_length]
  simp

theorem open_rest (l : List Nat) (n : Nat) (h1 : n ≤ 8 * l.length) (h2 : 8 * l.length ≤ n + 7) :
    ((bitsOf l).drop n).any id = (decide (0 < n % 8) && decide (l.getD (n / 8) 0 % 2 ^ (8 - n % 8) ≠ 0)) := by
  by_cases h : 0 < n % 8
  · rw [bitsOf_drop l n h1 h2 h, any_bitsN]; simp [h]
  · rw [List.drop_eq_nil_of_le (by simp; omega)]; simp [h]

theorem packB_open (l : List Nat) (n : Nat) (hb : ∀ x ∈ l, x < 256) (h1 : n ≤ 8 * l.length) (h2 : 8 * l.length ≤ n + 7) (h3 : ((bitsOf l).drop n).any id = false) : packB ((bitsOf l).take n) = l := by
  symm
  have hlen : ((bitsOf l).take n).length = n := by rw [List.length_take, bitsOf_length]; omega
  apply packB_eq (by rw [hlen]; omega)
  intro j hj
  rw [byteAt_take, byteAt_bitsOf l j hb, List.getElem?_eq_getElem hj]
  have e : l.getD j 0 = l[j] := by rw [List.getD_eq_getElem?_getD, List.getElem?_eq_getElem hj]; rfl
  rw [open_rest l n h1 h2] at h3
  by_cases hq : j = n / 8
  · rw [if_pos hq]
    have h4 : 0 < n % 8 := by omega
    simp only [h4, decide_true, Bool.true_and, ne_eq, decide_not, Bool.not_eq_false', decide_eq_true_eq] at h3
    rw [← hq] at h3
    have h5 := Nat.div_add_mod (l.getD j 0) (2 ^ (8 - n % 8))
    rw [h3, Nat.add_zero, Nat.mul_comm] at h5
    rw [h5, e]
  · rw [if_neg hq, if_pos (by omega), e]

theorem shl8_ne (b r : Nat) (hr : r ≤ 8) : ((b : Int) * 2 ^ r % 256 != 0) = decide (b % 2 ^ (8 - r) ≠ 0) := by
  have h1 : (b : Int) * 2 ^ r = ((b * 2 ^ r : Nat) : Int) := by simp
  have e : (256 : Nat) = 2 ^ (8 - r) * 2 ^ r := by
    have h0 : 8 - r + r = 8 := by omega
    rw [← Nat.pow_add, h0]
  have h2 : b * 2 ^ r % 256 = b % 2 ^ (8 - r) * 2 ^ r := by rw [e, Nat.mul_mod_mul_right]
  rw [h1]
  have h3 : ((b * 2 ^ r : Nat) : Int) % 256 = ((b * 2 ^ r % 256 : Nat) : Int) := by omega
  rw [h3, h2]
  have h4 : 0 < 2 ^ r := Nat.two_pow_pos r
  rw [Bool.eq_iff_iff, bne_iff_ne, decide_eq_true_iff]
  constructor
  · intro h5 h6; rw [h6] at h5; simp at h5
  · intro h5 h6
    have h7 : b % 2 ^ (8 - r) * 2 ^ r = 0 := by omega
    rcases Nat.mul_eq_zero.1 h7 with h | h <;> omega

/-- What a good NewReader leaves. -/
def Opened (w : World) (bs : List Bool) (e : Ending) (w' : World) : Prop :=
  ∃ p v, e = .returned (.tuple #[.pointer (some ⟨p, 0, none⟩), .int .i64 0]) ∧ BrAt w' w.heap.size p v bs 0 ∧ Kept (fun _ => False) w w'
def NotOpened (w : World) (c : Nat) (e : Ending) (w' : World) : Prop := e = .returned (.tuple #[.pointer none, .int .i64 (c : Int)]) ∧ w = w'

set_option maxHeartbeats 1000000 in
theorem bopen_no (v : Value) (l : List Nat) (n : Int) (w : World) (hv : SlAt w v (bys l)) (hl : l.length ≤ 1000000000) (hn : n ≤ 9223372036854775807) (hE : openE l n ≠ 0) :
    Calls Tryd.prog 19 #[v, .int .i64 n] w (NotOpened w (openE l n)) := by
  have hlen := bys_length l
  by_cases h1 : n < 0
  · have HE : Hid (openE l n = 1) := by show _ = _; unfold openE; rw [if_pos h1]
    clear hE
    obtain ⟨ao, c, rfl, hz, hc⟩ := hv.val
    clear hv hz hc
    go_enter Tryd.func19, Tryd.ntmps19
    go_wp2
    go_ret2
    exact ⟨by rw [HE.out]; rfl, rfl⟩
  · by_cases h2 : 8 * (l.length : Int) < n
    · have HE : Hid (openE l n = 2) := by show _ = _; unfold openE; rw [if_neg h1, if_pos h2]
      clear hE
      obtain ⟨ao, c, rfl, hz, hc⟩ := hv.val
      rw [bys_length]
      clear hv hz hc hlen
      go_enter Tryd.func19, Tryd.ntmps19
      go_wp2
      go_ret2
      exact ⟨by rw [HE.out]; rfl, rfl⟩
    · obtain ⟨m, rfl⟩ : ∃ m : Nat, n = m := ⟨n.toNat, by omega⟩
      by_cases h3 : 7 < 8 * (l.length : Int) - (m : Int)
      · have HE : Hid (openE l m = 3) := by show _ = _; unfold openE; rw [if_neg h1, if_neg h2, if_pos h3]
        clear hE
        obtain ⟨ao, c, rfl, hz, hc⟩ := hv.val
        rw [bys_length]
        obtain ⟨L, hL⟩ : ∃ L, L = (m + 7) / 8 := ⟨_, rfl⟩
        have hs : ∀ w, Calls Tryd.prog 54 #[.int .i64 (m : Int)] w fun e w' => e = .returned (.int .i64 (L : Int)) ∧ w = w' := fun w => by rw [hL]; exact bsize_any m (by omega) w
        have HS := Lib.hid hs
        have h4 : (L : Int) < (l.length : Int) := by omega
        have h4b : L < l.length := by omega
        clear hv hz hc hlen hs hL h3
        go_enter Tryd.func19, Tryd.ntmps19
        go_wp2_with (go_at_call 54; refine (HS.out _).mono ?_; rintro e w' ⟨rfl, rfl⟩)
        go_ret2
        exact ⟨by rw [HE.out]; rfl, rfl⟩
      · have h5 : ((bitsOf l).drop m).any id = true := by
          have h6 := hE
          unfold openE at h6
          rw [if_neg h1, if_neg h2, if_neg h3] at h6
          simp only [Int.toNat_natCast] at h6
          by_cases h7 : ((bitsOf l).drop m).any id = true
          · exact h7
          · rw [if_neg h7] at h6; exact absurd rfl h6
        have HE : Hid (openE l m = 3) := by show _ = _; unfold openE; rw [if_neg h1, if_neg h2, if_neg h3]; simp only [Int.toNat_natCast]; rw [if_pos h5]
        rw [open_rest l m (by omega) (by omega)] at h5
        simp only [Bool.and_eq_true, decide_eq_true_eq] at h5
        obtain ⟨h6, h7⟩ := h5
        obtain ⟨g, off, c, rfl, hc⟩ := hv.addr (by rw [hlen]; omega)
        rw [hlen]
        obtain ⟨r, hr⟩ : ∃ r, r = m % 8 := ⟨_, rfl⟩
        obtain ⟨q, hq⟩ : ∃ q, q = m / 8 := ⟨_, rfl⟩
        rw [← hr] at h6 h7
        rw [← hq] at h7
        obtain ⟨b, hb⟩ : ∃ b, b = l.getD q 0 := ⟨_, rfl⟩
        rw [← hb] at h7
        have hcell := hc q _ (bys_get (by omega))
        rw [← hb] at hcell
        have r1 : (m : Int) % 8 = (r : Int) := by omega
        have r2 : (m : Int) / 8 = (q : Int) := by omega
        have r3 : IntKind.i64.wrap (q : Int) = (q : Int) := IntWalk.i64_in _ ⟨by omega, by omega⟩
        have r4 : (0 : Int) ≤ (q : Int) := by omega
        have r5 : (q : Int) < (l.length : Int) := by omega
        have r6 : (0 : Int) < (r : Int) := by omega
        have r7 : ((b : Int) * 2 ^ r % 256 != 0) = true := by rw [shl8_ne b r (by omega)]; exact decide_eq_true h7
        obtain ⟨L, hL⟩ : ∃ L, L = (m + 7) / 8 := ⟨_, rfl⟩
        have hs : ∀ w, Calls Tryd.prog 54 #[.int .i64 (m : Int)] w fun e w' => e = .returned (.int .i64 (L : Int)) ∧ w = w' := fun w => by rw [hL]; exact bsize_any m (by omega) w
        have HS := Lib.hid hs
        have h4 : ¬ (L : Int) < (l.length : Int) := by omega
        have h4b : decide (L < l.length) = false := decide_eq_false (by omega)
        clear hv hc hlen hs hL h3 hr hq hb h7 hE
        go_enter Tryd.func19, Tryd.ntmps19
        go_wp2_with (go_at_call 54; refine (HS.out _).mono ?_; rintro e w' ⟨rfl, rfl⟩)
        go_ret2
        exact ⟨by rw [HE.out]; rfl, rfl⟩

set_option maxHeartbeats 1000000 in
theorem bopen_yes (v : Value) (l : List Nat) (n : Nat) (w : World) (hv : SlAt w v (bys l)) (hl : l.length ≤ 1000000000) (hb : ∀ x ∈ l, x < 256) (hE : openE l n = 0) :
    Calls Tryd.prog 19 #[v, .int .i64 n] w (Opened w ((bitsOf l).take n)) := by
  have hlen := bys_length l
  have h1 : ¬ (n : Int) < 0 := by omega
  by_cases h2 : 8 * (l.length : Int) < (n : Int)
  · unfold openE at hE; rw [if_neg h1, if_pos h2] at hE; exact absurd hE (by decide)
  · by_cases h3 : 7 < 8 * (l.length : Int) - (n : Int)
    · unfold openE at hE; rw [if_neg h1, if_neg h2, if_pos h3] at hE; exact absurd hE (by decide)
    · have h5 : ((bitsOf l).drop n).any id = false := by
        unfold openE at hE
        rw [if_neg h1, if_neg h2, if_neg h3] at hE
        simp only [Int.toNat_natCast] at hE
        by_cases h7 : ((bitsOf l).drop n).any id = true
        · rw [if_pos h7] at hE; exact absurd hE (by decide)
        · simpa using h7
      have hpk := packB_open l n hb (by omega) (by omega) h5
      have hbl : ((bitsOf l).take n).length = n := by rw [List.length_take, bitsOf_length]; omega
      have hcl : ∀ w, SlAt w v (bys l) → Calls Tryd.prog 53 #[v] w (FreshV 5 w (bys l)) := fun w h => bclone_any v (bys l) w h (bys_one l) (by rw [hlen]; omega)
      have HCL := Lib.hid (hcl w hv)
      have fin : ∀ (w' : World) (vv : Value), w'.ownsRow w.heap.size 5 1 vv (bys l).length (bys l) → Kept (fun _ => False) w w' → Opened w ((bitsOf l).take n) (.returned (.tuple #[.pointer (some ⟨w'.heap.size, 0, none⟩), .int .i64 0])) (w'.alloc (.cells #[vv, .int .i64 n, .int .i64 0] 88)) := by
        intro w' vv hown hk
        refine ⟨w'.heap.size, vv, rfl, ⟨hk.size, ?_, ?_, ?_, Nat.zero_le _⟩, hk.alloc _⟩
        · rw [hbl]; exact heap_alloc_new w' _
        · rw [hpk]; rw [hlen] at hown; exact hown.alloc _
        · intro h
          have := (ownsRow_lt hown h).1
          omega
      have FIN := Lib.hid fin
      rw [open_rest l n (by omega) (by omega)] at h5
      obtain ⟨L, hL⟩ : ∃ L, L = (n + 7) / 8 := ⟨_, rfl⟩
      have hs : ∀ w, Calls Tryd.prog 54 #[.int .i64 (n : Int)] w fun e w' => e = .returned (.int .i64 (L : Int)) ∧ w = w' := fun w => by rw [hL]; exact bsize_any n (by omega) w
      have HS := Lib.hid hs
      have h4 : ¬ (L : Int) < (l.length : Int) := by omega
      have h4b : decide (L < l.length) = false := decide_eq_false (by omega)
      obtain ⟨r, hr⟩ : ∃ r, r = n % 8 := ⟨_, rfl⟩
      have r1 : (n : Int) % 8 = (r : Int) := by omega
      rw [← hr] at h5
      by_cases h6 : 0 < r
      · obtain ⟨q, hq⟩ : ∃ q, q = n / 8 := ⟨_, rfl⟩
        rw [← hq] at h5
        obtain ⟨b, hbq⟩ : ∃ b, b = l.getD q 0 := ⟨_, rfl⟩
        rw [← hbq] at h5
        obtain ⟨g, off, c, rfl, hc⟩ := hv.addr (by rw [hlen]; omega)
        have hcell := hc q _ (bys_get (by omega))
        rw [← hbq] at hcell
        have r2 : (n : Int) / 8 = (q : Int) := by omega
        have r3 : IntKind.i64.wrap (q : Int) = (q : Int) := IntWalk.i64_in _ ⟨by omega, by omega⟩
        have r4 : (0 : Int) ≤ (q : Int) := by omega
        have r5 : (q : Int) < (l.length : Int) := by omega
        have r6 : (0 : Int) < (r : Int) := by omega
        have r7 : ((b : Int) * 2 ^ r % 256 != 0) = false := by
          rw [shl8_ne b r (by omega)]
          simpa [h6] using h5
        rw [hlen] at HCL ⊢
        clear hv hc hs hL h3 hr hq hbq h5 hE hpk hbl hcl fin
        rw [hlen] at FIN
        clear hlen
        go_enter Tryd.func19, Tryd.ntmps19
        go_wp2_with (go_at_call 54; refine (HS.out _).mono ?_; rintro e w' ⟨rfl, rfl⟩)
        refine HCL.out.mono ?_
        rintro e w' ⟨vv, rfl, hown, hk⟩
        rw [bys_length] at hown
        have fin2 := Lib.hid (FIN.out _ _ hown hk)
        obtain ⟨a', c', rfl⟩ := ownsRow_slice hown
        clear hown hk
        go_wp2
        go_ret2
        exact fin2.out
      · have r6 : decide (0 < r) = false := decide_eq_false h6
        have r6b : ¬ (0 : Int) < (r : Int) := by omega
        obtain ⟨ao, c, rfl, hz, hc⟩ := hv.val
        rw [hlen] at HCL ⊢
        clear hv hc hz hs hL h3 hr h6 h5 hE hpk hbl hcl fin
        rw [hlen] at FIN
        clear hlen
        go_enter Tryd.func19, Tryd.ntmps19
        go_wp2_with (go_at_call 54; refine (HS.out _).mono ?_; rintro e w' ⟨rfl, rfl⟩)
        refine HCL.out.mono ?_
        rintro e w' ⟨vv, rfl, hown, hk⟩
        rw [bys_length] at hown
        have fin2 := Lib.hid (FIN.out _ _ hown hk)
        obtain ⟨a', c', rfl⟩ := ownsRow_slice hown
        clear hown hk
        go_wp2
        go_ret2
        exact fin2.out
end Go.Proofs.YtjpnfadmblmjbaaDoor
