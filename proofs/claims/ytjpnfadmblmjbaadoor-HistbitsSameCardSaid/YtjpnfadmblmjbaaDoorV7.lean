/- package vary: Put. -/
import Derived.Test.YtjpnfadmblmjbaaDoorV6
namespace Go.Proofs.YtjpnfadmblmjbaaDoor
open Go.RowKit
attribute [local go_sem ↓] Go.wp_at_zero Go.wp_at_succ

/-- A number's small form. -/
def smallB (v : Nat) : List Bool := bitsN (classN v) 2 ++ bitsN v (sizeC.getD (classN v) 0)
theorem classN_le (v : Nat) : classN v < 4 := by unfold classN; split; omega; split; omega; split <;> omega
theorem class_fits (v : Nat) (hv : v < 18446744073709551616) : v < 2 ^ sizeC.getD (classN v) 0 := by
  unfold classN
  split
  · show v < 2 ^ 0; simpa using ‹v < 1›
  · split
    · show v < 2 ^ 7; simpa using ‹v < 128›
    · split
      · show v < 2 ^ 20; simpa using ‹v < 1048576›
      · show v < 2 ^ 64; simpa using hv
theorem ClassTab.bw {w w' : World} {B p : Nat} {v : Value} {bs bs2 : List Bool} (h : ClassTab w) (hW : BwAt w B p v bs) (hB : 0 < B) (h2 : BwTo w w' B p v bs2) : ClassTab w' := by
  obtain ⟨v2, _, _, hk⟩ := h2
  intro j hj
  refine hk.cell (h j hj) ?_
  rintro (e | e)
  · have := hW.base; simp only at e; omega
  · have := (ownsRow_lt hW.owns e).2; simp only at this; omega

set_option maxHeartbeats 1000000 in
theorem varyPut_any (B p : Nat) (v : Value) (bs : List Bool) (x : Nat) (w : World) (HW : BwAt w B p v bs) (hB0 : 0 < B) (hB : B ≤ w.heap.size) (hx : x < 18446744073709551616) (hl : bs.length ≤ 900000000) (HT : ClassTab w) :
    Calls Tryd.prog 12 #[.pointer (some ⟨p, 0, none⟩), .int .u64 x] w fun e w' => e = .returned (.tuple #[]) ∧ BwTo w w' B p v (bs ++ smallB x) := by
  have hc := classN_le x
  have hfit := class_fits x hx
  have HC := Lib.hid (class_any x hx w HT)
  have HS : Hid (smallB x = bitsN (classN x) 2 ++ bitsN x (sizeC.getD (classN x) 0)) := Lib.hid rfl
  have hsz : sizeC.getD (classN x) 0 ≤ 64 := by
    have hcc : classN x = 0 ∨ classN x = 1 ∨ classN x = 2 ∨ classN x = 3 := by omega
    rcases hcc with h | h | h | h <;> rw [h] <;> decide
  have h4 : classN x < 2 ^ 2 := by simpa using hc
  have HP1 := Lib.hid (bput_yes B p v bs (classN x) 2 w HW hB (by omega) h4 (by omega))
  clear h4
  obtain ⟨C, hCe⟩ : ∃ C, C = classN x := ⟨_, rfl⟩
  rw [← hCe] at HC HS HP1 hc hsz hfit
  obtain ⟨S, hSe⟩ : ∃ S, S = sizeC.getD C 0 := ⟨_, rfl⟩
  rw [← hSe] at HS hsz hfit
  have e1 : IntKind.u64.wrap (C : Int) = (C : Int) := by rw [IntKind.wrap_u64]; omega
  have c0 : (0 : Int) ≤ (C : Int) := by omega
  have c1 : (C : Int) < 4 := by omega
  have HSe := Lib.hid hSe
  have HW' := Lib.hid HW
  have HT' := Lib.hid HT
  clear HT hCe hSe HW
  go_enter Tryd.func12, Tryd.ntmps12
  go_wp2_with (first
    | (go_at_call 47; refine HC.out.mono ?_; rintro e w' ⟨rfl, rfl⟩)
    | (go_at_call_of 48 C; refine HP1.out.mono ?_; rintro e w1 ⟨rfl, hto⟩; have ht1 := HT'.out.bw HW'.out hB0 hto; have hcell := ht1 C hc; rw [← HSe.out] at hcell; obtain ⟨v1, hw1, hsz1, hcomp⟩ := hto.part; have HW1 := Lib.hid hw1; have HSZ1 := Lib.hid hsz1; clear hto ht1 hw1 hsz1)
    | (go_at_call_of 48 x; refine (bput_yes B p v1 _ x S w1 HW1.out (Nat.le_trans hB HSZ1.out) hsz hfit (by simp; omega)).mono ?_; rintro e w2 ⟨rfl, hto2⟩; have HTO := Lib.hid (hcomp.out _ _ hto2); clear hto2))
  go_end0
  exact ⟨rfl, by rw [HS.out, ← List.append_assoc]; exact HTO.out⟩
end Go.Proofs.YtjpnfadmblmjbaaDoor
