/- package hist: At, Trim; slices.Clone of counts. -/
import Derived.Test.YtbjpcddnjndjlaaH3
namespace Go.Proofs.Ytbjpcddnjndjlaa
open Go.RowKit
attribute [local go_sem ↓] Go.wp_at_zero Go.wp_at_succ

theorem Try.infoU64 : (Try.prog.info? 22).map (fun i => (i.zero, i.size, i.bytes)) = some (some (.int .u64 0), 1, 8) := by kernel_rfl

/-- What a bucket holds. -/
def atN (o : Int) (l : List Nat) (i : Int) : Nat := if o ≤ i ∧ i < o + (l.length : Int) then l.getD (i - o).toNat 0 else 0

set_option maxHeartbeats 1000000 in
theorem histAt_any (o i : Int) (l : List Nat) (v : Value) (w : World) (hv : SlAt w v (uvals l)) (ho : I64 o) (hi : I64 i) (hl : l.length ≤ 1000000) :
    Calls Try.prog 18 #[.agg #[.int .i64 o, v], .int .i64 i] w fun e w' => e = .returned (.int .u64 ((atN o l i : Nat) : Int)) ∧ Kept (fun _ => False) w w' := by
  obtain ⟨h0, h1⟩ := ho
  obtain ⟨i0, i1⟩ := hi
  have hv1 := hv.kept ((Kept.refl (fun _ => False) w).alloc (.cells #[.int .i64 o, v] 25)) (fun _ _ x => x)
  obtain ⟨ao, c, hval, _, _⟩ := hv.val
  rw [uvals_length] at hval
  subst hval
  by_cases h : i < o
  · have e : atN o l i = 0 := by unfold atN; rw [if_neg (by omega)]
    rw [e]
    clear hv hv1 e
    go_enter Try.func18, Try.ntmps18
    go_wp2
    go_ret
    exact ⟨rfl, (Kept.refl _ _).alloc _⟩
  · obtain ⟨k, hk⟩ : ∃ k : Nat, (k : Int) = i - o := ⟨(i - o).toNat, by omega⟩
    have ui := uN_u64 i
    have uo := uN_u64 o
    have hui : ((uN i : Nat) : Int) = i % 18446744073709551616 := by rw [← ui, IntKind.wrap_u64]
    have huo : ((uN o : Nat) : Int) = o % 18446744073709551616 := by rw [← uo, IntKind.wrap_u64]
    have uk : IntKind.u64.wrap (((uN i : Nat) : Int) - ((uN o : Nat) : Int)) = (k : Int) := by rw [IntKind.wrap_u64, hui, huo]; omega
    obtain ⟨UI, hUI⟩ : ∃ U, U = uN i := ⟨_, rfl⟩
    obtain ⟨UO, hUO⟩ : ∃ U, U = uN o := ⟨_, rfl⟩
    rw [← hUI] at ui uk
    rw [← hUO] at uo uk
    have ul : IntKind.u64.wrap (l.length : Int) = (l.length : Int) := by rw [IntKind.wrap_u64]; omega
    by_cases hlt : l.length ≤ k
    · have e : atN o l i = 0 := by unfold atN; rw [if_neg (by omega)]
      have q : (l.length : Int) ≤ (k : Int) := by omega
      have qb : decide (l.length ≤ k) = true := decide_eq_true hlt
      rw [e]
      clear hv hv1 e hk hUI hUO hui huo hlt
      go_enter Try.func18, Try.ntmps18
      go_wp2
      go_ret
      exact ⟨rfl, (Kept.refl _ _).alloc _⟩
    · have hkl : k < l.length := by omega
      have e : atN o l i = l.getD k 0 := by
        unfold atN
        rw [if_pos (by omega)]
        congr 1; omega
      have q : ¬ (l.length : Int) ≤ (k : Int) := by omega
      have qb : decide (l.length ≤ k) = false := decide_eq_false hlt
      obtain ⟨g, off, e1, c0⟩ := hv1.elem (uvals_get hkl)
      subst e1
      obtain ⟨x, hx⟩ : ∃ x, x = l.getD k 0 := ⟨_, rfl⟩
      rw [← hx] at c0 e
      rw [e]
      have k0 : (0 : Int) ≤ (k : Int) := by omega
      have k1 : (k : Int) < (l.length : Int) := by omega
      clear hv hv1 e hk hUI hUO hui huo hlt hx
      go_enter Try.func18, Try.ntmps18
      go_wp2
      go_ret
      exact ⟨rfl, (Kept.refl _ _).alloc _⟩

/-- A new slice of the counts. -/
def Fresh64 (w : World) (xs : List Value) (e : Ending) (w' : World) : Prop := ∃ v, e = .returned v ∧ Mine w w' 22 v xs

set_option maxHeartbeats 400000 in
theorem sclone_any (v : Value) (xs : List Value) (w : World) (hv : SlAt w v xs) (h1 : ∀ u ∈ xs, u.oneCell' = true) (hl : xs.length ≤ 100000000000) :
    Calls Try.prog 41 #[v] w (Fresh64 w xs) := by
  obtain ⟨i0, hi, hz0, hz1, hz2⟩ := info_parts Try.infoU64
  have q29 := fun (w : World) (a : Option Addr) (n c n' c' : Nat) => Lib.run_eql_slice_nil (P := Try.prog) w 23 22 a n c n' c' Try.underlying23
  obtain ⟨ao, c, rfl, hn, hcl⟩ := hv.val
  cases ao with
  | none =>
    obtain rfl := hn rfl
    clear hcl hn hv
    go_enter Try.func41, Try.ntmps41
    go_wp2
    go_ret
    exact ⟨_, rfl, Mine.nil _ _⟩
  | some a =>
    have hs := (hv.kept (((Kept.refl (fun _ => False) w).alloc (.cells #[] 22))) (fun _ _ h => h)).src Try.underlying23 h1
    have hown0 : Mine w (w.alloc (.cells #[] 22)) 22 (.slice (some ⟨w.heap.size, 0, none⟩) 0 0) [] :=
      ⟨⟨rfl, .inr ⟨w.heap.size, 0, #[], rfl, Nat.le_refl _, heap_alloc_new w _, Nat.le_refl _, by unfold maxLen; omega, rfl, rfl⟩⟩, (Kept.refl _ _).alloc _⟩
    have HO := Lib.hid hown0
    have HS := Lib.hid hs
    clear hcl hn hv hown0 hs
    go_enter Try.func41, Try.ntmps41
    go_wp2_with (at_builtin; refine wpList_mine rfl (.tmp 5) (.tmp 6) 23 23 rfl 22 i0 (.int .u64 0) 8 Try.underlying23 hi hz0 hz1 hz2 rfl (by omega) w _ [] rfl HO.out _ xs rfl HS.out (by simp; omega) ?_; intro v' w1 hm; have HM := Lib.hid hm; clear hm)
    go_ret
    exact ⟨_, rfl, by have := HM.out; simpa using this⟩
end Go.Proofs.Ytbjpcddnjndjlaa
