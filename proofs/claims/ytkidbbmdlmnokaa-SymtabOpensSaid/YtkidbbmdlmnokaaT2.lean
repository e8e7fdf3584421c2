/- package symtab, layer 34: shared, the program's and the document's (written by tools/gen_XT2.py). -/
import Derived.Test.YtkidbbmdlmnokaaT1
namespace Go.Proofs.Ytkidbbmdlmnokaa
open Go.RowKit
attribute [local go_sem ↓] Go.wp_at_zero Go.wp_at_succ

theorem rem8 (i : Nat) : ((i : Int) % 8 == 0) = decide (i % 8 = 0) := by
  by_cases h : i % 8 = 0
  · rw [decide_eq_true h]; simp; omega
  · rw [decide_eq_false h]; simp; omega
set_option maxHeartbeats 4000000 in
theorem shared_any (i : Nat) (a s : ByteArray) (w : World) (hi : i ≤ 1000000) (ha : a.size ≤ 1000000) (hs : s.size ≤ 1000000) :
    Calls Try.prog 77 #[.int .i64 (i : Int), .string a, .string s] w fun e w' => e = .returned (.int .i64 ((shr i a s : Nat) : Int)) ∧ Kept (fun _ => False) w w' := by
  by_cases h8 : i % 8 = 0
  · have HX : Hid (shr i a s = 0) := Lib.hid (if_pos h8)
    have q : ((i : Int) % 8 == 0) = true := by rw [rem8, decide_eq_true h8]
    clear h8 ha hs
    go_enter Try.func77, Try.ntmps77
    go_wp2
    go_ret
    exact ⟨by rw [HX.out]; rfl, Kept.refl _ _⟩
  have HX : Hid (shr i a s = comm (bl a) (bl s)) := Lib.hid (if_neg h8)
  have q : ((i : Int) % 8 == 0) = false := by rw [rem8, decide_eq_false h8]
  have HA := Lib.hid (fun n (h : n < a.size) w => run_chr (P := Try.prog) Try.underlying9 a n h w)
  have HS := Lib.hid (fun n (h : n < s.size) w => run_chr (P := Try.prog) Try.underlying9 s n h w)
  have HB := Lib.hid (And.intro ha hs)
  clear h8 ha hs
  go_enter Try.func77, Try.ntmps77
  go_wp2
  go_loopg [7] a.size (fun G s7 wr => ∃ n : Nat, n ≤ a.size ∧ n ≤ s.size ∧ G = a.size - n ∧ s7 = .int .i64 n ∧ Kept (fun _ => False) w wr ∧ ∀ j, j < n → (bl a).getD j 0 = (bl s).getD j 0)
  case atStart => exact ⟨0, Nat.zero_le _, Nat.zero_le _, rfl, rfl, Kept.refl _ _, fun j h => by omega⟩
  case round =>
    obtain ⟨n, hna, hns, rfl, rfl, hk, hall⟩ := hrel
    have HK := Lib.hid hk
    have HALL := Lib.hid hall
    have hn0 : (0 : Int) ≤ (n : Int) := by omega
    clear hk hall
    by_cases h1 : n < a.size
    · have q1 : (n : Int) < (a.size : Int) := by omega
      have q1' : decide (n < a.size) = true := decide_eq_true h1
      by_cases h2 : n < s.size
      · have q2 : (n : Int) < (s.size : Int) := by omega
        have q2' : decide (n < s.size) = true := decide_eq_true h2
        have i1 := HA.out n h1
        have i2 := HS.out n h2
        have HG := Lib.hid (And.intro (bl_getD a n) (bl_getD s n))
        obtain ⟨x, hx⟩ : ∃ x, x = chr a n := ⟨_, rfl⟩
        obtain ⟨y, hy⟩ : ∃ x, x = chr s n := ⟨_, rfl⟩
        rw [← hx] at i1 HG
        rw [← hy] at i2 HG
        have wn : IntKind.i64.wrap ((n : Int) + 1) = ((n + 1 : Nat) : Int) := by rw [IntWalk.i64_in _ ⟨by omega, by have := HB.out; omega⟩]; omega
        clear hx hy
        have HN := Lib.hid (And.intro h1 h2)
        clear h1 h2 hna hns
        by_cases hxy : x = y
        · have q3 : ((x : Int) == (y : Int)) = true := beqT (by omega)
          have HE := Lib.hid hxy
          clear hxy
          go_upto_region 4 with fail
          go_region
          obtain ⟨wd, hwd⟩ : ∃ w', w' = wr.drew := ⟨_, rfl⟩
          rw [← hwd]
          have HKD : Hid (Kept (fun _ => False) w wd) := Lib.hid (by rw [hwd]; exact HK.out.drew)
          clear hwd
          go_wp2
          go_roundg (a.size - (n + 1))
          case measure => have := HN.out; omega
          case rel =>
            refine ⟨n + 1, HN.out.1, HN.out.2, rfl, rfl, HKD.out, fun j hj => ?_⟩
            by_cases hjn : j = n
            · rw [hjn, HG.out.1, HG.out.2]; exact HE.out
            · exact HALL.out j (by omega)
        · have q3 : ((x : Int) == (y : Int)) = false := beqF (by omega)
          have HR : Hid (shr i a s = n) := Lib.hid (by rw [HX.out]; exact comm_is (by rw [bl_length]; have := HN.out; omega) (by rw [bl_length]; have := HN.out; omega) HALL.out (.inr (.inr (by rw [HG.out.1, HG.out.2]; exact hxy))))
          clear hxy
          go_upto_region 4 with fail
          go_region
          go_wp2
          go_ret
          exact ⟨by rw [HR.out]; rfl, HK.out.drew⟩
      · have q2 : ¬ (n : Int) < (s.size : Int) := by omega
        have q2' : decide (n < s.size) = false := decide_eq_false h2
        have HR : Hid (shr i a s = n) := Lib.hid (by rw [HX.out]; exact comm_is (by rw [bl_length]; omega) (by rw [bl_length]; omega) HALL.out (.inr (.inl (by rw [bl_length]; omega))))
        clear h1 h2 hna hns
        go_upto_region 4 with fail
        go_region
        go_wp2
        go_ret
        exact ⟨by rw [HR.out]; rfl, HK.out.drew⟩
    · have q1 : ¬ (n : Int) < (a.size : Int) := by omega
      have q1' : decide (n < a.size) = false := decide_eq_false h1
      have HR : Hid (shr i a s = n) := Lib.hid (by rw [HX.out]; exact comm_is (by rw [bl_length]; omega) (by rw [bl_length]; omega) HALL.out (.inl (by rw [bl_length]; omega)))
      clear h1 hna hns
      go_upto_region 4 with fail
      go_region
      go_wp2
      go_ret
      exact ⟨by rw [HR.out]; rfl, HK.out.drew⟩
set_option maxHeartbeats 4000000 in
theorem rshared_any (i : Nat) (a s : ByteArray) (w : World) (hi : i ≤ 1000000) (ha : a.size ≤ 1000000) (hs : s.size ≤ 1000000) :
    Calls Try.prog 78 #[.int .i64 (i : Int), .string a, .string s] w fun e w' => e = .returned (.int .i64 ((shr i a s : Nat) : Int)) ∧ Kept (fun _ => False) w w' := by
  by_cases h8 : i % 8 = 0
  · have HX : Hid (shr i a s = 0) := Lib.hid (if_pos h8)
    have q : ((i : Int) % 8 == 0) = true := by rw [rem8, decide_eq_true h8]
    clear h8 ha hs
    go_enter Try.func78, Try.ntmps78
    go_wp2
    go_ret
    exact ⟨by rw [HX.out]; rfl, Kept.refl _ _⟩
  have HX : Hid (shr i a s = comm (bl a) (bl s)) := Lib.hid (if_neg h8)
  have q : ((i : Int) % 8 == 0) = false := by rw [rem8, decide_eq_false h8]
  have HA := Lib.hid (fun n (h : n < a.size) w => run_chr (P := Try.prog) Try.underlying9 a n h w)
  have HS := Lib.hid (fun n (h : n < s.size) w => run_chr (P := Try.prog) Try.underlying9 s n h w)
  have HB := Lib.hid (And.intro ha hs)
  clear h8 ha hs
  go_enter Try.func78, Try.ntmps78
  go_wp2
  go_loopg [7] a.size (fun G s7 wr => ∃ n : Nat, n ≤ a.size ∧ n ≤ s.size ∧ G = a.size - n ∧ s7 = .int .i64 n ∧ Kept (fun _ => False) w wr ∧ ∀ j, j < n → (bl a).getD j 0 = (bl s).getD j 0)
  case atStart => exact ⟨0, Nat.zero_le _, Nat.zero_le _, rfl, rfl, Kept.refl _ _, fun j h => by omega⟩
  case round =>
    obtain ⟨n, hna, hns, rfl, rfl, hk, hall⟩ := hrel
    have HK := Lib.hid hk
    have HALL := Lib.hid hall
    have hn0 : (0 : Int) ≤ (n : Int) := by omega
    clear hk hall
    by_cases h1 : n < a.size
    · have q1 : (n : Int) < (a.size : Int) := by omega
      have q1' : decide (n < a.size) = true := decide_eq_true h1
      by_cases h2 : n < s.size
      · have q2 : (n : Int) < (s.size : Int) := by omega
        have q2' : decide (n < s.size) = true := decide_eq_true h2
        have i1 := HA.out n h1
        have i2 := HS.out n h2
        have HG := Lib.hid (And.intro (bl_getD a n) (bl_getD s n))
        obtain ⟨x, hx⟩ : ∃ x, x = chr a n := ⟨_, rfl⟩
        obtain ⟨y, hy⟩ : ∃ x, x = chr s n := ⟨_, rfl⟩
        rw [← hx] at i1 HG
        rw [← hy] at i2 HG
        have wn : IntKind.i64.wrap ((n : Int) + 1) = ((n + 1 : Nat) : Int) := by rw [IntWalk.i64_in _ ⟨by omega, by have := HB.out; omega⟩]; omega
        clear hx hy
        have HN := Lib.hid (And.intro h1 h2)
        clear h1 h2 hna hns
        by_cases hxy : x = y
        · have q3 : ((x : Int) == (y : Int)) = true := beqT (by omega)
          have HE := Lib.hid hxy
          clear hxy
          go_upto_region 4 with fail
          go_region
          obtain ⟨wd, hwd⟩ : ∃ w', w' = wr.drew := ⟨_, rfl⟩
          rw [← hwd]
          have HKD : Hid (Kept (fun _ => False) w wd) := Lib.hid (by rw [hwd]; exact HK.out.drew)
          clear hwd
          go_wp2
          go_roundg (a.size - (n + 1))
          case measure => have := HN.out; omega
          case rel =>
            refine ⟨n + 1, HN.out.1, HN.out.2, rfl, rfl, HKD.out, fun j hj => ?_⟩
            by_cases hjn : j = n
            · rw [hjn, HG.out.1, HG.out.2]; exact HE.out
            · exact HALL.out j (by omega)
        · have q3 : ((x : Int) == (y : Int)) = false := beqF (by omega)
          have HR : Hid (shr i a s = n) := Lib.hid (by rw [HX.out]; exact comm_is (by rw [bl_length]; have := HN.out; omega) (by rw [bl_length]; have := HN.out; omega) HALL.out (.inr (.inr (by rw [HG.out.1, HG.out.2]; exact hxy))))
          clear hxy
          go_upto_region 4 with fail
          go_region
          go_wp2
          go_ret
          exact ⟨by rw [HR.out]; rfl, HK.out.drew⟩
      · have q2 : ¬ (n : Int) < (s.size : Int) := by omega
        have q2' : decide (n < s.size) = false := decide_eq_false h2
        have HR : Hid (shr i a s = n) := Lib.hid (by rw [HX.out]; exact comm_is (by rw [bl_length]; omega) (by rw [bl_length]; omega) HALL.out (.inr (.inl (by rw [bl_length]; omega))))
        clear h1 h2 hna hns
        go_upto_region 4 with fail
        go_region
        go_wp2
        go_ret
        exact ⟨by rw [HR.out]; rfl, HK.out.drew⟩
    · have q1 : ¬ (n : Int) < (a.size : Int) := by omega
      have q1' : decide (n < a.size) = false := decide_eq_false h1
      have HR : Hid (shr i a s = n) := Lib.hid (by rw [HX.out]; exact comm_is (by rw [bl_length]; omega) (by rw [bl_length]; omega) HALL.out (.inl (by rw [bl_length]; omega)))
      clear h1 hna hns
      go_upto_region 4 with fail
      go_region
      go_wp2
      go_ret
      exact ⟨by rw [HR.out]; rfl, HK.out.drew⟩
end Go.Proofs.Ytkidbbmdlmnokaa
