/- The document's At and reach of two sides. -/
import Derived.Test.YtbjpcddnjndjlaaE4
import Derived.RegionTactic
import Derived.BigRegion
namespace Go.Proofs.Ytbjpcddnjndjlaa
open Go.RowKit
attribute [local go_sem ↓] Go.wp_at_zero Go.wp_at_succ

set_option maxHeartbeats 1000000 in
theorem refAt9_any (o i : Int) (l : List Nat) (v : Value) (w : World) (hv : SlAt w v (uvals l)) (ho : -1000000000000 ≤ o ∧ o ≤ 1000000000000) (hi : -1000000000000 ≤ i ∧ i ≤ 1000000000000) (hl : l.length ≤ 1000000) :
    Calls Try.prog 51 #[.agg #[.int .i64 o, v], .int .i64 i] w fun e w' => e = .returned (.int .u64 ((atN o l i : Nat) : Int)) ∧ Kept (fun _ => False) w w' := by
  obtain ⟨h0, h1⟩ := ho
  obtain ⟨i0, i1⟩ := hi
  have hv1 := hv.kept ((Kept.refl (fun _ => False) w).alloc (.cells #[.int .i64 o, v] 25)) (fun _ _ x => x)
  obtain ⟨ao, c, hval, _, _⟩ := hv.val
  rw [uvals_length] at hval
  subst hval
  by_cases h : i < o
  · have e : atN o l i = 0 := atN_out (.inl h)
    rw [e]
    clear hv hv1 e
    go_enter Try.func51, Try.ntmps51
    go_wp2
    go_ret
    exact ⟨rfl, (Kept.refl _ _).alloc _⟩
  · by_cases h2 : o + (l.length : Int) ≤ i
    · have e : atN o l i = 0 := atN_out (.inr h2)
      rw [e]
      clear hv hv1 e
      go_enter Try.func51, Try.ntmps51
      go_wp2
      go_ret
      exact ⟨rfl, (Kept.refl _ _).alloc _⟩
    · have e : atN o l i = l.getD (i - o).toNat 0 := atN_in (by omega) (by omega)
      rw [e]
      obtain ⟨k, hk⟩ : ∃ k : Nat, (k : Int) = i - o := ⟨(i - o).toNat, by omega⟩
      have ek : (i - o).toNat = k := by omega
      rw [ek]
      have kl : k < l.length := by omega
      obtain ⟨g, off, e1, c0⟩ := hv1.elem (uvals_get kl)
      subst e1
      obtain ⟨x, hx⟩ : ∃ x, x = l.getD k 0 := ⟨_, rfl⟩
      rw [← hx] at c0 ⊢
      have t1 : i - o = (k : Int) := hk.symm
      have t2 : IntKind.i64.wrap (k : Int) = (k : Int) := IntWalk.i64_in _ ⟨by omega, by omega⟩
      have t3 : IntKind.i64.wrap (i - o) = (k : Int) := by rw [t1]; exact t2
      have k0 : (0 : Int) ≤ (k : Int) := by omega
      have k1 : (k : Int) < (l.length : Int) := by omega
      clear hv hv1 e ek hk hx
      go_enter Try.func51, Try.ntmps51
      go_wp2
      go_ret
      exact ⟨rfl, (Kept.refl _ _).alloc _⟩

theorem ret_reach {a b a' b' : Int} (h1 : a = a') (h2 : b = b') : Ending.returned (.tuple #[.int .i64 a, .int .i64 b, .bool true]) = .returned (.tuple #[.int .i64 a', .int .i64 b', .bool true]) := by rw [h1, h2]
/-- What reach answers. -/
def reachV (o1 : Int) (l1 : List Nat) (o2 : Int) (l2 : List Nat) : Value := .tuple #[.int .i64 (spF o1 l1 o2 l2), .int .i64 (if l1.length = 0 ∧ l2.length = 0 then 0 else spT o1 l1 o2 l2 - 1), .bool (decide (l1.length ≠ 0 ∨ l2.length ≠ 0))]
set_option maxHeartbeats 2000000 in
set_option maxRecDepth 100000 in
theorem reach_any (o1 : Int) (l1 : List Nat) (o2 : Int) (l2 : List Nat) (v1 v2 : Value) (w : World) (hv1 : SlAt w v1 (uvals l1)) (hv2 : SlAt w v2 (uvals l2)) (ho1 : -1000000000000 ≤ o1 ∧ o1 ≤ 1000000000000) (ho2 : -1000000000000 ≤ o2 ∧ o2 ≤ 1000000000000) (hl1 : l1.length ≤ 1000000) (hl2 : l2.length ≤ 1000000) :
    Calls Try.prog 50 #[.agg #[.int .i64 o1, v1], .agg #[.int .i64 o2, v2]] w fun e w' => e = .returned (reachV o1 l1 o2 l2) ∧ Kept (fun _ => False) w w' := by
  obtain ⟨a1, a2⟩ := ho1
  obtain ⟨b1, b2⟩ := ho2
  obtain ⟨ao, c, hval1, _, _⟩ := hv1.val
  obtain ⟨bo, d, hval2, _, _⟩ := hv2.val
  rw [uvals_length] at hval1 hval2
  subst hval1 hval2
  clear hv1 hv2
  obtain ⟨n1, hn1⟩ : ∃ n, n = l1.length := ⟨_, rfl⟩
  obtain ⟨n2, hn2⟩ : ∃ n, n = l2.length := ⟨_, rfl⟩
  have hF : spF o1 l1 o2 l2 = if n1 = 0 then (if n2 = 0 then 0 else o2) else if n2 = 0 then o1 else min o1 o2 := by rw [hn1, hn2]; rfl
  have hT : spT o1 l1 o2 l2 = if n1 = 0 then (if n2 = 0 then 0 else o2 + (n2 : Int)) else if n2 = 0 then o1 + (n1 : Int) else max (o1 + (n1 : Int)) (o2 + (n2 : Int)) := by rw [hn1, hn2]; rfl
  unfold reachV
  rw [hF, hT, ← hn1, ← hn2]
  rw [← hn1] at hl1
  rw [← hn2] at hl2
  clear hF hT hn1 hn2
  by_cases z1 : n1 = 0
  · have q1 : ((n1 : Int) == 0) = true := beqT (by omega)
    by_cases z2 : n2 = 0
    · have q2 : ((n2 : Int) == 0) = true := beqT (by omega)
      rw [if_pos z1, if_pos z2, if_pos ⟨z1, z2⟩, decide_eq_false (by omega)]
      clear z1 z2
      go_enter Try.func50, Try.ntmps50
      go_wp2
      go_ret3
      exact ⟨rfl, ((Kept.refl _ _).alloc _).alloc _⟩
    · have q2 : ((n2 : Int) == 0) = false := beqF (by omega)
      rw [if_pos z1, if_neg z2, if_neg (by omega), decide_eq_true (.inr z2), if_pos z1, if_neg z2]
      clear z1 z2
      go_enter Try.func50, Try.ntmps50
      go_wp2
      have t1 : IntKind.i64.wrap (o2 + (n2 : Int)) = o2 + (n2 : Int) := IntWalk.i64_in _ ⟨by omega, by omega⟩
      have t2 : IntKind.i64.wrap (o2 + (n2 : Int) - 1) = o2 + (n2 : Int) - 1 := IntWalk.i64_in _ ⟨by omega, by omega⟩
      go_quiet (fail)
      go_wp2
      go_ret3
      exact ⟨rfl, (((Kept.refl _ _).alloc _).alloc _).drewN _⟩
  · have q1 : ((n1 : Int) == 0) = false := beqF (by omega)
    by_cases z2 : n2 = 0
    · have q2 : ((n2 : Int) == 0) = true := beqT (by omega)
      rw [if_neg z1, if_pos z2, if_neg (by omega), decide_eq_true (.inl z1), if_neg z1, if_pos z2]
      have t1 : IntKind.i64.wrap (o1 + (n1 : Int)) = o1 + (n1 : Int) := IntWalk.i64_in _ ⟨by omega, by omega⟩
      have t2 : IntKind.i64.wrap (o1 + (n1 : Int) - 1) = o1 + (n1 : Int) - 1 := IntWalk.i64_in _ ⟨by omega, by omega⟩
      clear z1 z2
      go_enter Try.func50, Try.ntmps50
      go_wp2
      go_quiet (fail)
      go_wp2
      go_ret3
      exact ⟨rfl, (((Kept.refl _ _).alloc _).alloc _).drewN _⟩
    · have q2 : ((n2 : Int) == 0) = false := beqF (by omega)
      rw [if_neg z1, if_neg z2, if_neg (by omega), decide_eq_true (.inl z1), if_neg z1, if_neg z2]
      have t1 : IntKind.i64.wrap (o1 + (n1 : Int)) = o1 + (n1 : Int) := IntWalk.i64_in _ ⟨by omega, by omega⟩
      have t3 : IntKind.i64.wrap (o2 + (n2 : Int)) = o2 + (n2 : Int) := IntWalk.i64_in _ ⟨by omega, by omega⟩
      have t2 : IntKind.i64.wrap (o1 + (n1 : Int) - 1) = o1 + (n1 : Int) - 1 := IntWalk.i64_in _ ⟨by omega, by omega⟩
      have t4 : IntKind.i64.wrap (o2 + (n2 : Int) - 1) = o2 + (n2 : Int) - 1 := IntWalk.i64_in _ ⟨by omega, by omega⟩
      clear z1 z2
      go_enter Try.func50, Try.ntmps50
      go_wp2
      go_quiet (fail)
      all_goals go_wp2
      all_goals
        go_ret3
        refine ⟨ret_reach (by omega) (by omega), (((Kept.refl _ _).alloc _).alloc _).drewN _⟩
end Go.Proofs.Ytbjpcddnjndjlaa
