/- package vary, layer 6: the least class of a number, and the document's. -/
import Derived.Test.YtjpnfadmblmjbaaDoorV4
import Derived.Test.YtjpnfadmblmjbaaDoorB3
namespace Go.Proofs.YtjpnfadmblmjbaaDoor
open Go.RowKit
attribute [local go_sem ↓] Go.wp_at_zero Go.wp_at_succ

/-- How many bits a class has. -/
def sizeC : List Nat := [0, 7, 20, 64]
/-- The least class of a number. -/
def classN (v : Nat) : Nat := if v < 1 then 0 else if v < 128 then 1 else if v < 1048576 then 2 else 3
/-- The program's table of the classes. -/
def ClassTab (w : World) : Prop := ∀ j, j < 4 → w.cell? ⟨0, j, none⟩ = some (.int .i64 ((sizeC.getD j 0 : Nat) : Int))
theorem ClassTab.kept {w w' : World} (h : ClassTab w) (hk : Kept (fun _ => False) w w') : ClassTab w' := fun j hj => hk.cell (h j hj) fun x => x

set_option maxHeartbeats 1000000 in
theorem class_any (v : Nat) (hv : v < 18446744073709551616) (w : World) (HT : ClassTab w) :
    Calls Tryd.prog 47 #[.int .u64 v] w fun e w' => e = .returned (.int .i64 ((classN v : Nat) : Int)) ∧ w = w' := by
  have t0 : w.cell? ⟨0, 0, none⟩ = some (.int .i64 0) := HT 0 (by omega)
  have t1 : w.cell? ⟨0, 1, none⟩ = some (.int .i64 7) := HT 1 (by omega)
  have t2 : w.cell? ⟨0, 2, none⟩ = some (.int .i64 20) := HT 2 (by omega)
  have h0 : (0 : Int) ≤ (v : Int) := by omega
  have HC : Hid (classN v = if v < 1 then 0 else if v < 128 then 1 else if v < 1048576 then 2 else 3) := Lib.hid rfl
  clear HT
  go_enter Tryd.func47, Tryd.ntmps47
  go_wp2
  go_loopw [3] (fun t wr => ∃ c : Nat, c ≤ classN v ∧ t = .int .i64 c ∧ w = wr) (fun t _ => 3 - (intOf t).toNat)
  case atStart => exact ⟨0, by omega, rfl, rfl⟩
  case round =>
    obtain ⟨c, hc, rfl, rfl⟩ := hrel
    have hc3 : c ≤ 3 := by
      have := HC.out
      rw [this] at hc
      split at hc
      · omega
      · split at hc
        · omega
        · split at hc <;> omega
    have hcc : c = 0 ∨ c = 1 ∨ c = 2 ∨ c = 3 := by omega
    by_cases he : c = classN v
    · have HE : Hid (classN v = c) := Lib.hid he.symm
      have HV : v < 1 ∧ c = 0 ∨ (1 ≤ v ∧ v < 128 ∧ c = 1) ∨ (128 ≤ v ∧ v < 1048576 ∧ c = 2) ∨ c = 3 := by
        have := HC.out
        rw [← he] at this
        split at this
        · omega
        · split at this
          · omega
          · split at this <;> omega
      clear he hc
      rcases HV with ⟨h1, rfl⟩ | ⟨h1, h2, rfl⟩ | ⟨h1, h2, rfl⟩ | rfl
      · have q : ((v : Int) != 0) = false := by simp; omega
        go_wp2
        go_ret
        exact ⟨by rw [HE.out]; rfl, rfl⟩
      · have q : ((v : Int) / 128 != 0) = false := by simp; omega
        go_wp2
        go_ret
        exact ⟨by rw [HE.out]; rfl, rfl⟩
      · have q : ((v : Int) / 1048576 != 0) = false := by simp; omega
        go_wp2
        go_ret
        exact ⟨by rw [HE.out]; rfl, rfl⟩
      · go_wp2
        go_ret
        exact ⟨by rw [HE.out]; rfl, rfl⟩
    · have hlt : c + 1 ≤ classN v := by omega
      have HV : (1 ≤ v ∧ c = 0) ∨ (128 ≤ v ∧ c = 1) ∨ (1048576 ≤ v ∧ c = 2) := by
        have := HC.out
        rw [this] at hlt
        split at hlt
        · omega
        · split at hlt
          · omega
          · split at hlt <;> omega
      have HL := Lib.hid hlt
      clear he hc hlt
      rcases HV with ⟨h1, rfl⟩ | ⟨h1, rfl⟩ | ⟨h1, rfl⟩
      · have q : ((v : Int) != 0) = true := by simp; omega
        go_wp2
        go_roundw
        case rel => exact ⟨1, HL.out, rfl, trivial⟩
        case measure => simp [intOf]
      · have q : ((v : Int) / 128 != 0) = true := by simp; omega
        go_wp2
        go_roundw
        case rel => exact ⟨2, HL.out, rfl, trivial⟩
        case measure => simp [intOf]
      · have q : ((v : Int) / 1048576 != 0) = true := by simp; omega
        go_wp2
        go_roundw
        case rel => exact ⟨3, HL.out, rfl, trivial⟩
        case measure => simp [intOf]
end Go.Proofs.YtjpnfadmblmjbaaDoor
