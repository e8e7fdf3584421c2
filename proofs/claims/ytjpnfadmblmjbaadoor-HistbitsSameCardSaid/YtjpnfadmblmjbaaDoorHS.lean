/- slices.Clone of counts; counts that are appended. -/
import Derived.Test.YtjpnfadmblmjbaaDoorH3
namespace Go.Proofs.YtjpnfadmblmjbaaDoor
open Go.RowKit
attribute [local go_sem ↓] Go.wp_at_zero Go.wp_at_succ

theorem Tryd.infoU64 : (Tryd.prog.info? 28).map (fun i => (i.zero, i.size, i.bytes)) = some (some (.int .u64 0), 1, 8) := by kernel_rfl

/-- A new slice of the counts. -/
def Fresh64 (w : World) (xs : List Value) (e : Ending) (w' : World) : Prop := ∃ v, e = .returned v ∧ Mine w w' 28 v xs

set_option maxHeartbeats 400000 in
theorem sclone_any (v : Value) (xs : List Value) (w : World) (hv : SlAt w v xs) (h1 : ∀ u ∈ xs, u.oneCell' = true) (hl : xs.length ≤ 100000000000) :
    Calls Tryd.prog 86 #[v] w (Fresh64 w xs) := by
  obtain ⟨i0, hi, hz0, hz1, hz2⟩ := info_parts Tryd.infoU64
  have q29 := fun (w : World) (a : Option Addr) (n c n' c' : Nat) => Lib.run_eql_slice_nil (P := Tryd.prog) w 22 28 a n c n' c' Tryd.underlying22
  obtain ⟨ao, c, rfl, hn, hcl⟩ := hv.val
  cases ao with
  | none =>
    obtain rfl := hn rfl
    clear hcl hn hv
    go_enter Tryd.func86, Tryd.ntmps86
    go_wp2
    go_ret
    exact ⟨_, rfl, Mine.nil _ _⟩
  | some a =>
    have hs := (hv.kept (((Kept.refl (fun _ => False) w).alloc (.cells #[] 28))) (fun _ _ h => h)).src Tryd.underlying22 h1
    have hown0 : Mine w (w.alloc (.cells #[] 28)) 28 (.slice (some ⟨w.heap.size, 0, none⟩) 0 0) [] :=
      ⟨⟨rfl, .inr ⟨w.heap.size, 0, #[], rfl, Nat.le_refl _, heap_alloc_new w _, Nat.le_refl _, by unfold maxLen; omega, rfl, rfl⟩⟩, (Kept.refl _ _).alloc _⟩
    have HO := Lib.hid hown0
    have HS := Lib.hid hs
    clear hcl hn hv hown0 hs
    go_enter Tryd.func86, Tryd.ntmps86
    go_wp2_with (at_builtin; refine wpList_mine rfl (.tmp 5) (.tmp 6) 22 22 rfl 28 i0 (.int .u64 0) 8 Tryd.underlying22 hi hz0 hz1 hz2 rfl (by omega) w _ [] rfl HO.out _ xs rfl HS.out (by simp; omega) ?_; intro v' w1 hm; have HM := Lib.hid hm; clear hm)
    go_ret
    exact ⟨_, rfl, by have := HM.out; simpa using this⟩
theorem wpList_mineU {ops : Array Oper} {rest : List Oper} {o : Oper} {a : Act} {Q : Exit → Act → World → Prop} {w : World} (hgd : o.guard = none) (s x : Operand)
    (ho : o.op = .call { callee := .builtin .append, args := #[s, x], argTypes := #[22, 22] })
    (W : World) (v : Value) (xs : List Value) (hv : a.eval s = v) (hm : Mine W w 28 v xs)
    (y : Value) (news : List Value) (hy : a.eval x = y) (hs : Src Tryd.prog 1 22 y news.length news w)
    (hl : xs.length + news.length ≤ 1000000000000)
    (h : ∀ v' w', Mine W w' 28 v' (xs ++ news) → Kept (fun k => v.ownBlock = some k) w w' → (v'.ownBlock = v.ownBlock ∨ v'.ownBlock = some w.heap.size) → wpList Tryd.prog ops Q rest (a.put o.dst v') w') : wpList Tryd.prog ops Q (o :: rest) a w := by
  obtain ⟨iI, hiI, hzI0, hzI1, hzI2⟩ := info_parts Tryd.infoU64
  exact wpList_mine2 hgd s x _ _ ho 28 iI (.int .u64 0) 8 Tryd.underlying22 hiI hzI0 hzI1 hzI2 rfl (by omega) W v xs hv hm y news hy hs hl h
theorem step_mineU {ops : Array Oper} {o : Oper} {a : Act} {K : Act → World → Prop} {Q : Exit → Act → World → Prop} {E : Prop} {w : World} (hgd : o.guard = none) (s x : Operand)
    (ho : o.op = .call { callee := .builtin .append, args := #[s, x], argTypes := #[22, 22] })
    (W : World) (v : Value) (xs : List Value) (hv : a.eval s = v) (hm : Mine W w 28 v xs)
    (y : Value) (news : List Value) (hy : a.eval x = y) (hs : Src Tryd.prog 1 22 y news.length news w)
    (hl : xs.length + news.length ≤ 1000000000000)
    (h : ∀ v' w', Mine W w' 28 v' (xs ++ news) → Kept (fun k => v.ownBlock = some k) w w' → (v'.ownBlock = v.ownBlock ∨ v'.ownBlock = some w.heap.size) → K (a.put o.dst v') w') :
    if Region.wanted o (yielded ops a.tmps) = true then Oper.wp Tryd.prog o a w K Q else E := by
  obtain ⟨iI, hiI, hzI0, hzI1, hzI2⟩ := info_parts Tryd.infoU64
  exact step_mine hgd s x _ _ ho 28 iI (.int .u64 0) 8 Tryd.underlying22 hiI hzI0 hzI1 hzI2 rfl (by omega) W v xs hv hm y news hy hs hl h
theorem src_oneU (w : World) (u : Value) (hu : u.oneCell' = true) : Src Tryd.prog 1 22 (.slice (some ⟨w.heap.size, 0, none⟩) 1 1) ([u] : List Value).length [u] (w.alloc (.cells #[u] 28)) := src_one w Tryd.underlying22 u hu
theorem uvals_drop (l : List Nat) (i : Nat) : uvals (l.drop i) = (uvals l).drop i := by unfold uvals; rw [List.map_drop]
theorem uvals_take (l : List Nat) (i : Nat) : uvals (l.take i) = (uvals l).take i := by unfold uvals; rw [List.map_take]
theorem uvals_append (l m : List Nat) : uvals (l ++ m) = uvals l ++ uvals m := by unfold uvals; rw [List.map_append]
end Go.Proofs.YtjpnfadmblmjbaaDoor
