/- Texts put together: what the theorem stands on. -/
import Derived.Test.YtiiibhdohlpodaaZz8
import Derived.RegionTactic
import Derived.BigRegion

namespace Go.Proofs.Ytiiibhdohlpodaa
open Go.RowKit
/-- The same, with what was turned. -/
theorem wpList_mine2 {P : Program} {ops : Array Oper} {rest : List Oper} {o : Oper} {a : Act} {Q : Exit → Act → World → Prop} {w : World} (hgd : o.guard = none) (s x : Operand) (t tx : TypeId)
    (ho : o.op = .call { callee := .builtin .append, args := #[s, x], argTypes := #[t, tx] })
    (e : TypeId) (i : TypeInfo) (z : Value) (bytes : Nat) (ht : P.underlying t = some (.slice e)) (hi : P.info? e = some i) (hz : i.zero = some z)
    (hsize : i.size = 1) (hby : i.bytes = bytes) (hzs : z.cells.size = 1) (hb : bytes ≤ 64)
    (W : World) (v : Value) (xs : List Value) (hv : a.eval s = v) (hm : Mine W w e v xs)
    (y : Value) (news : List Value) (hy : a.eval x = y) (hs : Src P 1 tx y news.length news w)
    (hl : xs.length + news.length ≤ 1000000000000)
    (h : ∀ v' w', Mine W w' e v' (xs ++ news) → Kept (fun k => v.ownBlock = some k) w w' → (v'.ownBlock = v.ownBlock ∨ v'.ownBlock = some w.heap.size) → wpList P ops Q rest (a.put o.dst v') w') : wpList P ops Q (o :: rest) a w := by
  refine wpList_append_src w hgd s x t tx ho W.heap.size e i z 1 bytes ht hi hz hsize hby hzs v xs.length xs hv hm.own y news.length news hy hs (by unfold maxLen; omega) ?_ hm.kept.size ?_
  · have := Nat.mul_le_mul hl hb; omega
  · intro v' w' hown hg _ hat
    refine h v' w' ⟨by rw [List.length_append]; exact hown, hm.kept.grown hg (fun k e hlt => ?_)⟩ ((Kept.refl (fun k => v.ownBlock = some k) w).grown hg (fun k e _ => e)) hat
    have := (ownsRow_lt hm.own e).2; omega
theorem wpList_mineU {ops : Array Oper} {rest : List Oper} {o : Oper} {a : Act} {Q : Exit → Act → World → Prop} {w : World} (hgd : o.guard = none) (s x : Operand)
    (ho : o.op = .call { callee := .builtin .append, args := #[s, x], argTypes := #[26, 26] })
    (W : World) (v : Value) (xs : List Value) (hv : a.eval s = v) (hm : Mine W w 25 v xs)
    (y : Value) (news : List Value) (hy : a.eval x = y) (hs : Src Try.prog 1 26 y news.length news w)
    (hl : xs.length + news.length ≤ 1000000000000)
    (h : ∀ v' w', Mine W w' 25 v' (xs ++ news) → Kept (fun k => v.ownBlock = some k) w w' → (v'.ownBlock = v.ownBlock ∨ v'.ownBlock = some w.heap.size) → wpList Try.prog ops Q rest (a.put o.dst v') w') : wpList Try.prog ops Q (o :: rest) a w := by
  obtain ⟨iI, hiI, hzI0, hzI1, hzI2⟩ := info_parts Try.infoU64
  exact wpList_mine2 hgd s x _ _ ho 25 iI (.int .u64 0) 8 Try.underlying26 hiI hzI0 hzI1 hzI2 rfl (by omega) W v xs hv hm y news hy hs hl h
theorem SideBox.set1 {w : World} {q : Nat} {o : Int} {v : Value} (h : SideBox w q o v) (v' : Value) : SideBox (w.setCell ⟨q, 1, none⟩ v') q o v' := by
  unfold SideBox at *; simp [World.setCell, Array.getElem?_modify, h]
end Go.Proofs.Ytiiibhdohlpodaa

namespace Go.Proofs.Ytiiibhdohlpodaa
open Go.RowKit
/-- The least index of two sides; how many indices there are from it to the greatest. -/
def spF (o1 : Int) (l1 : List Nat) (o2 : Int) (l2 : List Nat) : Int := if l1.length = 0 then (if l2.length = 0 then 0 else o2) else if l2.length = 0 then o1 else min o1 o2
def spT (o1 : Int) (l1 : List Nat) (o2 : Int) (l2 : List Nat) : Int := if l1.length = 0 then (if l2.length = 0 then 0 else o2 + (l2.length : Int)) else if l2.length = 0 then o1 + (l1.length : Int) else max (o1 + (l1.length : Int)) (o2 + (l2.length : Int))
def spN (o1 : Int) (l1 : List Nat) (o2 : Int) (l2 : List Nat) : Nat := (spT o1 l1 o2 l2 - spF o1 l1 o2 l2).toNat
theorem sp_facts (o1 : Int) (l1 : List Nat) (o2 : Int) (l2 : List Nat) :
    (spN o1 l1 o2 l2 : Int) = spT o1 l1 o2 l2 - spF o1 l1 o2 l2 ∧ (l1.length ≠ 0 → spF o1 l1 o2 l2 ≤ o1 ∧ o1 + (l1.length : Int) ≤ spT o1 l1 o2 l2) ∧ (l2.length ≠ 0 → spF o1 l1 o2 l2 ≤ o2 ∧ o2 + (l2.length : Int) ≤ spT o1 l1 o2 l2) ∧
    (l1.length ≠ 0 ∨ l2.length ≠ 0 → (l1.length ≠ 0 ∧ spF o1 l1 o2 l2 = o1 ∨ l2.length ≠ 0 ∧ spF o1 l1 o2 l2 = o2) ∧ (l1.length ≠ 0 ∧ spT o1 l1 o2 l2 = o1 + (l1.length : Int) ∨ l2.length ≠ 0 ∧ spT o1 l1 o2 l2 = o2 + (l2.length : Int))) ∧ (l1.length = 0 → l2.length = 0 → spF o1 l1 o2 l2 = 0 ∧ spT o1 l1 o2 l2 = 0) := by
  have e : (spN o1 l1 o2 l2 : Int) = ((spT o1 l1 o2 l2 - spF o1 l1 o2 l2).toNat : Int) := rfl
  by_cases h1 : l1.length = 0
  · by_cases h2 : l2.length = 0
    · have a : spF o1 l1 o2 l2 = 0 := by simp [spF, h1, h2]
      have b : spT o1 l1 o2 l2 = 0 := by simp [spT, h1, h2]
      omega
    · have a : spF o1 l1 o2 l2 = o2 := by simp [spF, h1, h2]
      have b : spT o1 l1 o2 l2 = o2 + (l2.length : Int) := by simp [spT, h1, h2]
      omega
  · by_cases h2 : l2.length = 0
    · have a : spF o1 l1 o2 l2 = o1 := by simp [spF, h1, h2]
      have b : spT o1 l1 o2 l2 = o1 + (l1.length : Int) := by simp [spT, h1, h2]
      omega
    · have a : spF o1 l1 o2 l2 = min o1 o2 := by simp [spF, h1, h2]
      have b : spT o1 l1 o2 l2 = max (o1 + (l1.length : Int)) (o2 + (l2.length : Int)) := by simp [spT, h1, h2]
      omega
theorem sp_comm (o1 : Int) (l1 : List Nat) (o2 : Int) (l2 : List Nat) : spF o1 l1 o2 l2 = spF o2 l2 o1 l1 ∧ spN o1 l1 o2 l2 = spN o2 l2 o1 l1 := by
  have e : spF o1 l1 o2 l2 = spF o2 l2 o1 l1 ∧ spT o1 l1 o2 l2 = spT o2 l2 o1 l1 := by
    by_cases h1 : l1.length = 0
    · by_cases h2 : l2.length = 0
      · simp [spF, spT, h1, h2]
      · simp [spF, spT, h1, h2]
    · by_cases h2 : l2.length = 0
      · simp [spF, spT, h1, h2]
      · simp only [spF, spT, h1, h2, if_false]; omega
  unfold spN
  rw [e.1, e.2]; exact ⟨rfl, rfl⟩
/-- A row over a span. -/
def rowF (f : Int) (n : Nat) (g : Int → Nat) : List Nat := (List.range n).map fun (j : Nat) => g (f + (j : Int))
@[simp] theorem rowF_length (f : Int) (n : Nat) (g : Int → Nat) : (rowF f n g).length = n := by simp [rowF]
theorem rowF_get (f : Int) (n : Nat) (g : Int → Nat) (j : Nat) (h : j < n) : (rowF f n g).getD j 0 = g (f + (j : Int)) := by
  simp [rowF, List.getD_eq_getElem?_getD, h]
theorem rowF_congr (f : Int) (n : Nat) (g h : Int → Nat) (e : ∀ j, j < n → g (f + (j : Int)) = h (f + (j : Int))) : rowF f n g = rowF f n h := by
  unfold rowF
  apply List.map_congr_left
  intro j hj
  exact e j (List.mem_range.1 hj)
theorem rowF_succ (f : Int) (n : Nat) (g : Int → Nat) : rowF f (n + 1) g = rowF f n g ++ [g (f + (n : Int))] := by
  unfold rowF; rw [List.range_succ, List.map_append]; rfl
theorem rowF_zero (f : Int) (n : Nat) (g : Int → Nat) (h : ∀ i, g i = 0) : rowF f n g = List.replicate n 0 := by
  unfold rowF
  rw [List.eq_replicate_iff]
  refine ⟨by simp, fun b hb => ?_⟩
  obtain ⟨j, _, rfl⟩ := List.mem_map.1 hb
  exact h _
theorem rowF_set (f : Int) (n : Nat) (g h : Int → Nat) (j : Nat) (hj : j < n) (e : ∀ i, i ≠ f + (j : Int) → h i = g i) : rowF f n h = (rowF f n g).set j (h (f + (j : Int))) := by
  apply list_ext0
  · simp
  · intro i hi
    rw [rowF_length] at hi
    rw [rowF_get _ _ _ _ hi, List.getD_eq_getElem?_getD, List.getElem?_set]
    by_cases hji : j = i
    · subst hji; rw [if_pos rfl, if_pos (by simpa using hj)]; rfl
    · rw [if_neg hji, ← List.getD_eq_getElem?_getD, rowF_get _ _ _ _ hi]
      exact e _ (by omega)
theorem atN_in {o i : Int} {l : List Nat} (h1 : o ≤ i) (h2 : i < o + (l.length : Int)) : atN o l i = l.getD (i - o).toNat 0 := by unfold atN; rw [if_pos ⟨h1, h2⟩]
theorem atN_out {o i : Int} {l : List Nat} (h : i < o ∨ o + (l.length : Int) ≤ i) : atN o l i = 0 := by unfold atN; rw [if_neg (by omega)]
theorem atN_at (o : Int) (l : List Nat) (j : Nat) (h : j < l.length) : atN o l (o + (j : Int)) = l.getD j 0 := by
  rw [atN_in (by omega) (by omega)]; congr 1; omega
theorem row_atN (o : Int) (l : List Nat) : rowF o l.length (atN o l) = l := by
  apply list_ext0
  · simp
  · intro j hj
    rw [rowF_length] at hj
    rw [rowF_get _ _ _ _ hj, atN_at _ _ _ hj]
/-- Two sides together. -/
def mgL (o1 : Int) (l1 : List Nat) (o2 : Int) (l2 : List Nat) : List Nat := rowF (spF o1 l1 o2 l2) (spN o1 l1 o2 l2) fun i => atN o1 l1 i + atN o2 l2 i
theorem mgL_nil1 (o1 o2 : Int) (l2 : List Nat) (h2 : l2.length = 0 → o2 = 0) : spF o1 [] o2 l2 = o2 ∧ mgL o1 [] o2 l2 = l2 := by
  have hf : spF o1 [] o2 l2 = o2 := by unfold spF; by_cases h : l2.length = 0 <;> simp [h, h2]
  have hn : spN o1 [] o2 l2 = l2.length := by
    unfold spN; rw [hf]; unfold spT
    by_cases h : l2.length = 0
    · simp [h, h2 h]
    · simp [h]; omega
  refine ⟨hf, ?_⟩
  unfold mgL
  rw [hf, hn]
  have := row_atN o2 l2
  rw [← this]
  simp only [rowF_length]
  apply rowF_congr
  intro j hj
  rw [atN_out (l := []) (by simp; omega), Nat.zero_add, row_atN]
theorem mgL_comm (o1 : Int) (l1 : List Nat) (o2 : Int) (l2 : List Nat) : mgL o1 l1 o2 l2 = mgL o2 l2 o1 l1 := by
  unfold mgL
  rw [(sp_comm o1 l1 o2 l2).1, (sp_comm o1 l1 o2 l2).2]
  exact rowF_congr _ _ _ _ fun j _ => Nat.add_comm _ _
theorem mgL_nil2 (o1 o2 : Int) (l1 : List Nat) (h1 : l1.length = 0 → o1 = 0) : spF o1 l1 o2 [] = o1 ∧ mgL o1 l1 o2 [] = l1 := by
  rw [mgL_comm, (sp_comm o1 l1 o2 []).1]
  exact mgL_nil1 o2 o1 l1 h1
/-- One side has all that another one has; what is left. -/
def hasS (o1 : Int) (l1 : List Nat) (o2 : Int) (l2 : List Nat) : Prop := ∀ i, i < l2.length → l2.getD i 0 ≤ atN o1 l1 (o2 + (i : Int))
def lsL (o1 : Int) (l1 : List Nat) (o2 : Int) (l2 : List Nat) : List Nat := rowF o1 l1.length fun i => atN o1 l1 i - atN o2 l2 i
end Go.Proofs.Ytiiibhdohlpodaa
namespace Go.Proofs.Ytiiibhdohlpodaa
open Go.RowKit
attribute [local go_sem ↓] Go.wp_at_zero Go.wp_at_succ
set_option maxHeartbeats 1000000 in
theorem refAt9_any (o i : Int) (l : List Nat) (v : Value) (w : World) (hv : SlAt w v (uvals l)) (ho : -1000000000000 ≤ o ∧ o ≤ 1000000000000) (hi : -1000000000000 ≤ i ∧ i ≤ 1000000000000) (hl : l.length ≤ 1000000) :
    Calls Try.prog 108 #[.agg #[.int .i64 o, v], .int .i64 i] w fun e w' => e = .returned (.int .u64 ((atN o l i : Nat) : Int)) ∧ Kept (fun _ => False) w w' := by
  obtain ⟨h0, h1⟩ := ho
  obtain ⟨i0, i1⟩ := hi
  have hv1 := hv.kept ((Kept.refl (fun _ => False) w).alloc (.cells #[.int .i64 o, v] 28)) (fun _ _ x => x)
  obtain ⟨ao, c, hval, _, _⟩ := hv.val
  rw [uvals_length] at hval
  subst hval
  by_cases h : i < o
  · have e : atN o l i = 0 := atN_out (.inl h)
    rw [e]
    clear hv hv1 e
    go_enter Try.func108, Try.ntmps108
    go_wp2
    go_ret
    exact ⟨rfl, (Kept.refl _ _).alloc _⟩
  · by_cases h2 : o + (l.length : Int) ≤ i
    · have e : atN o l i = 0 := atN_out (.inr h2)
      rw [e]
      clear hv hv1 e
      go_enter Try.func108, Try.ntmps108
      go_wp2
      go_ret
      exact ⟨rfl, (Kept.refl _ _).alloc _⟩
    · have e : atN o l i = l.getD (i - o).toNat 0 := atN_in (by omega) (by omega)
      rw [e]
      obtain ⟨k, hk⟩ : ∃ k : Nat, (k : Int) = i - o := ⟨(i - o).toNat, by omega⟩
      have ek : (i - o).toNat = k := by omega
      rw [ek]
      have kl : k < l.length := by omega
      obtain ⟨g, off, e1, c0⟩ := hv1.elem (uvals_get kl)
      subst e1
      obtain ⟨x, hx⟩ : ∃ x, x = l.getD k 0 := ⟨_, rfl⟩
      rw [← hx] at c0 ⊢
      have t1 : i - o = (k : Int) := hk.symm
      have t2 : IntKind.i64.wrap (k : Int) = (k : Int) := IntWalk.i64_in _ ⟨by omega, by omega⟩
      have t3 : IntKind.i64.wrap (i - o) = (k : Int) := by rw [t1]; exact t2
      have k0 : (0 : Int) ≤ (k : Int) := by omega
      have k1 : (k : Int) < (l.length : Int) := by omega
      clear hv hv1 e ek hk hx
      go_enter Try.func108, Try.ntmps108
      go_wp2
      go_ret
      exact ⟨rfl, (Kept.refl _ _).alloc _⟩
theorem ret_reach {a b a' b' : Int} (h1 : a = a') (h2 : b = b') : Ending.returned (.tuple #[.int .i64 a, .int .i64 b, .bool true]) = .returned (.tuple #[.int .i64 a', .int .i64 b', .bool true]) := by rw [h1, h2]
/-- What reach answers. -/
def reachV (o1 : Int) (l1 : List Nat) (o2 : Int) (l2 : List Nat) : Value := .tuple #[.int .i64 (spF o1 l1 o2 l2), .int .i64 (if l1.length = 0 ∧ l2.length = 0 then 0 else spT o1 l1 o2 l2 - 1), .bool (decide (l1.length ≠ 0 ∨ l2.length ≠ 0))]
set_option maxHeartbeats 2000000 in
set_option maxRecDepth 100000 in
theorem reach_any (o1 : Int) (l1 : List Nat) (o2 : Int) (l2 : List Nat) (v1 v2 : Value) (w : World) (hv1 : SlAt w v1 (uvals l1)) (hv2 : SlAt w v2 (uvals l2)) (ho1 : -1000000000000 ≤ o1 ∧ o1 ≤ 1000000000000) (ho2 : -1000000000000 ≤ o2 ∧ o2 ≤ 1000000000000) (hl1 : l1.length ≤ 1000000) (hl2 : l2.length ≤ 1000000) :
    Calls Try.prog 107 #[.agg #[.int .i64 o1, v1], .agg #[.int .i64 o2, v2]] w fun e w' => e = .returned (reachV o1 l1 o2 l2) ∧ Kept (fun _ => False) w w' := by
  obtain ⟨a1, a2⟩ := ho1
  obtain ⟨b1, b2⟩ := ho2
  obtain ⟨ao, c, hval1, _, _⟩ := hv1.val
  obtain ⟨bo, d, hval2, _, _⟩ := hv2.val
  rw [uvals_length] at hval1 hval2
  subst hval1 hval2
  clear hv1 hv2
  obtain ⟨n1, hn1⟩ : ∃ n, n = l1.length := ⟨_, rfl⟩
  obtain ⟨n2, hn2⟩ : ∃ n, n = l2.length := ⟨_, rfl⟩
  have hF : spF o1 l1 o2 l2 = if n1 = 0 then (if n2 = 0 then 0 else o2) else if n2 = 0 then o1 else min o1 o2 := by rw [hn1, hn2]; rfl
  have hT : spT o1 l1 o2 l2 = if n1 = 0 then (if n2 = 0 then 0 else o2 + (n2 : Int)) else if n2 = 0 then o1 + (n1 : Int) else max (o1 + (n1 : Int)) (o2 + (n2 : Int)) := by rw [hn1, hn2]; rfl
  unfold reachV
  rw [hF, hT, ← hn1, ← hn2]
  rw [← hn1] at hl1
  rw [← hn2] at hl2
  clear hF hT hn1 hn2
  by_cases z1 : n1 = 0
  · have q1 : ((n1 : Int) == 0) = true := beqT (by omega)
    by_cases z2 : n2 = 0
    · have q2 : ((n2 : Int) == 0) = true := beqT (by omega)
      rw [if_pos z1, if_pos z2, if_pos ⟨z1, z2⟩, decide_eq_false (by omega)]
      clear z1 z2
      go_enter Try.func107, Try.ntmps107
      go_wp2
      go_ret3
      exact ⟨rfl, ((Kept.refl _ _).alloc _).alloc _⟩
    · have q2 : ((n2 : Int) == 0) = false := beqF (by omega)
      rw [if_pos z1, if_neg z2, if_neg (by omega), decide_eq_true (.inr z2), if_pos z1, if_neg z2]
      clear z1 z2
      go_enter Try.func107, Try.ntmps107
      go_wp2
      have t1 : IntKind.i64.wrap (o2 + (n2 : Int)) = o2 + (n2 : Int) := IntWalk.i64_in _ ⟨by omega, by omega⟩
      have t2 : IntKind.i64.wrap (o2 + (n2 : Int) - 1) = o2 + (n2 : Int) - 1 := IntWalk.i64_in _ ⟨by omega, by omega⟩
      go_quiet (fail)
      go_wp2
      go_ret3
      exact ⟨rfl, (((Kept.refl _ _).alloc _).alloc _).drewN _⟩
  · have q1 : ((n1 : Int) == 0) = false := beqF (by omega)
    by_cases z2 : n2 = 0
    · have q2 : ((n2 : Int) == 0) = true := beqT (by omega)
      rw [if_neg z1, if_pos z2, if_neg (by omega), decide_eq_true (.inl z1), if_neg z1, if_pos z2]
      have t1 : IntKind.i64.wrap (o1 + (n1 : Int)) = o1 + (n1 : Int) := IntWalk.i64_in _ ⟨by omega, by omega⟩
      have t2 : IntKind.i64.wrap (o1 + (n1 : Int) - 1) = o1 + (n1 : Int) - 1 := IntWalk.i64_in _ ⟨by omega, by omega⟩
      clear z1 z2
      go_enter Try.func107, Try.ntmps107
      go_wp2
      go_quiet (fail)
      go_wp2
      go_ret3
      exact ⟨rfl, (((Kept.refl _ _).alloc _).alloc _).drewN _⟩
    · have q2 : ((n2 : Int) == 0) = false := beqF (by omega)
      rw [if_neg z1, if_neg z2, if_neg (by omega), decide_eq_true (.inl z1), if_neg z1, if_neg z2]
      have t1 : IntKind.i64.wrap (o1 + (n1 : Int)) = o1 + (n1 : Int) := IntWalk.i64_in _ ⟨by omega, by omega⟩
      have t3 : IntKind.i64.wrap (o2 + (n2 : Int)) = o2 + (n2 : Int) := IntWalk.i64_in _ ⟨by omega, by omega⟩
      have t2 : IntKind.i64.wrap (o1 + (n1 : Int) - 1) = o1 + (n1 : Int) - 1 := IntWalk.i64_in _ ⟨by omega, by omega⟩
      have t4 : IntKind.i64.wrap (o2 + (n2 : Int) - 1) = o2 + (n2 : Int) - 1 := IntWalk.i64_in _ ⟨by omega, by omega⟩
      clear z1 z2
      go_enter Try.func107, Try.ntmps107
      go_wp2
      go_quiet (fail)
      all_goals go_wp2
      all_goals
        go_ret3
        refine ⟨ret_reach (by omega) (by omega), (((Kept.refl _ _).alloc _).alloc _).drewN _⟩
end Go.Proofs.Ytiiibhdohlpodaa
namespace Go.Proofs.Ytiiibhdohlpodaa
open Go.RowKit
attribute [local go_sem ↓] Go.wp_at_zero Go.wp_at_succ
theorem atP_0 (o : Int) (l : List Nat) (i : Int) : atP o l 0 i = 0 := by unfold atP; rw [if_neg (by omega)]
theorem atP_at (o : Int) (l : List Nat) (m : Nat) : atP o l m (o + (m : Int)) = 0 := by unfold atP; rw [if_neg (by omega)]
/-- What a call answers that may make a side. -/
def SideTry (W w : World) (ok : Bool) (o : Int) (l : List Nat) (e : Ending) (w' : World) : Prop :=
  ∃ v', e = .returned (.tuple #[.agg #[.int .i64 o, v'], .bool ok]) ∧ Mine W w' 25 v' (uvals l) ∧ Kept (fun _ => False) w w'
def mgOk (o1 : Int) (l1 : List Nat) (o2 : Int) (l2 : List Nat) : Bool := decide (spN o1 l1 o2 l2 ≤ 160)
def mgO (o1 : Int) (l1 : List Nat) (o2 : Int) (l2 : List Nat) : Int := if spN o1 l1 o2 l2 ≤ 160 then spF o1 l1 o2 l2 else 0
def mgR (o1 : Int) (l1 : List Nat) (o2 : Int) (l2 : List Nat) : List Nat := if spN o1 l1 o2 l2 ≤ 160 then mgL o1 l1 o2 l2 else []
theorem side2_end {fn : Func} {p s : Tmp} {a : Act} {P : Ending → World → Prop} {w : World} {q : Nat} {o : Int} {v x : Value} (hres : fn.results = #[.cell p 28, .tmp s]) (hp : a.tmps.getD p undef = .pointer (some ⟨q, 0, none⟩)) (hx : a.tmps.getD s undef = x) (hd : a.defers = [])
    (hg : SideBox w q o v) (hP : P (.returned (.tuple #[.agg #[.int .i64 o, v], x])) w) : bodyPost Try.prog fn P .ret a w := by
  refine bodyPost_ret (v := .tuple #[.agg #[.int .i64 o, v], x]) ?_ hd hP
  have hp' : a.tmps[p]?.getD undef = .pointer (some ⟨q, 0, none⟩) := by simpa using hp
  have hx' : a.tmps[s]?.getD undef = x := by simpa using hx
  have hl := run_loadVar_row (P := Try.prog) w q 28 28 _ (0, 0) _ hg Try.underlying28 rfl side_info
  simp [results, hres, hp', hx', asAddr, hl]
/-- Three boxes: two sides that came in, and one to answer. -/
structure SB3 (w wr : World) (o1 o2 o3 : Int) (v1 v2 v3 : Value) : Prop where
  a : SideBox wr w.heap.size o1 v1
  b : SideBox wr (w.heap.size + 1) o2 v2
  r : SideBox wr (w.heap.size + 1 + 1) o3 v3
theorem SB3.on {w wr w' : World} {o1 o2 o3 : Int} {v1 v2 v3 : Value} (h : SB3 w wr o1 o2 o3 v1 v2 v3) (k : Kept (fun _ => False) wr w') : SB3 w w' o1 o2 o3 v1 v2 v3 := ⟨h.a.same k (fun x => x), h.b.same k (fun x => x), h.r.same k (fun x => x)⟩
theorem SB3.mk0 (w : World) (o1 o2 : Int) (v1 v2 : Value) : SB3 w (((w.alloc (.cells #[.int .i64 o1, v1] 28)).alloc (.cells #[.int .i64 o2, v2] 28)).alloc (.cells #[.int .i64 0, .slice none 0 0] 28)) o1 o2 0 v1 v2 (.slice none 0 0) := by
  have k := fun (w : World) o => (Kept.refl (fun _ => False) w).alloc o
  have nb : ∀ (w : World) o v, SideBox (w.alloc (.cells #[.int .i64 o, v] 28)) w.heap.size o v := fun w o v => heap_alloc_new w _
  refine ⟨?_, ?_, ?_⟩
  · exact ((nb w o1 v1).same (k _ _) (fun x => x)).same (k _ _) (fun x => x)
  · have := nb (w.alloc (.cells #[.int .i64 o1, v1] 28)) o2 v2
    rw [show (w.alloc (.cells #[.int .i64 o1, v1] 28)).heap.size = w.heap.size + 1 by simp] at this
    exact this.same (k _ _) (fun x => x)
  · have := nb ((w.alloc (.cells #[.int .i64 o1, v1] 28)).alloc (.cells #[.int .i64 o2, v2] 28)) 0 (.slice none 0 0)
    rw [show ((w.alloc (.cells #[.int .i64 o1, v1] 28)).alloc (.cells #[.int .i64 o2, v2] 28)).heap.size = w.heap.size + 1 + 1 by simp] at this
    exact this
theorem made0 {w w3 : World} (hk : Kept (fun _ => False) w w3) (W : Nat) (O : Int) (hW : W ≤ maxLen) :
    SideBox ((w3.alloc (.cells (Array.replicate W (.int .u64 0)) 25)).alloc (.cells #[.int .i64 O, .slice (some ⟨w3.heap.size, 0, none⟩) W W] 28)) (w3.heap.size + 1) O (.slice (some ⟨w3.heap.size, 0, none⟩) W W) ∧
    Mine w ((w3.alloc (.cells (Array.replicate W (.int .u64 0)) 25)).alloc (.cells #[.int .i64 O, .slice (some ⟨w3.heap.size, 0, none⟩) W W] 28)) 25 (.slice (some ⟨w3.heap.size, 0, none⟩) W W) (List.replicate W (.int .u64 0)) ∧
    Kept (fun _ => False) w3 ((w3.alloc (.cells (Array.replicate W (.int .u64 0)) 25)).alloc (.cells #[.int .i64 O, .slice (some ⟨w3.heap.size, 0, none⟩) W W] 28)) := by
  refine ⟨?_, ?_, ((Kept.refl _ w3).alloc _).alloc _⟩
  · have := heap_alloc_new (w3.alloc (.cells (Array.replicate W (.int .u64 0)) 25)) (.cells #[.int .i64 O, .slice (some ⟨w3.heap.size, 0, none⟩) W W] 28)
    have e : (w3.alloc (.cells (Array.replicate W (.int .u64 0)) 25)).heap.size = w3.heap.size + 1 := by simp
    rw [e] at this
    exact this
  · exact (mine_made hk W (.int .u64 0) 25 hW).on ((Kept.refl _ _).alloc _)
set_option maxHeartbeats 4000000 in
set_option maxRecDepth 100000 in
theorem foldMerge1_any (o1 : Int) (l1 : List Nat) (o2 : Int) (l2 : List Nat) (v1 v2 : Value) (W w : World) (m1 : Mine W w 25 v1 (uvals l1)) (m2 : Mine W w 25 v2 (uvals l2)) (h1 : sideE o1 l1 = 0) (h2 : sideE o2 l2 = 0) (hs : l1.sum + l2.sum < 18446744073709551616) :
    Calls Try.prog 45 #[.agg #[.int .i64 o1, v1], .agg #[.int .i64 o2, v2]] w (SideTry W w (mgOk o1 l1 o2 l2) (mgO o1 l1 o2 l2) (mgR o1 l1 o2 l2)) := by
  obtain ⟨a1, a2, a3⟩ := sideE_zero h1
  obtain ⟨b1, b2, b3⟩ := sideE_zero h2
  obtain ⟨ao, c, rfl⟩ := m1.slice
  obtain ⟨bo, d, rfl⟩ := m2.slice
  rw [uvals_length] at m1 m2 ⊢
  rw [uvals_length]
  have hsb := SB3.mk0 w o1 o2 (.slice ao l1.length c) (.slice bo l2.length d)
  obtain ⟨w0, hw0⟩ : ∃ w0, w0 = (((w.alloc (.cells #[.int .i64 o1, .slice ao l1.length c] 28)).alloc (.cells #[.int .i64 o2, .slice bo l2.length d] 28)).alloc (.cells #[.int .i64 0, .slice none 0 0] 28)) := ⟨_, rfl⟩
  rw [← hw0] at hsb
  have k0 : Kept (fun _ => False) w w0 := by rw [hw0]; exact (((Kept.refl _ w).alloc _).alloc _).alloc _
  have HW0 := Lib.hid hw0
  have HSB := Lib.hid hsb
  have HK0 := Lib.hid k0
  have HV1 := Lib.hid m1.at_
  have HV2 := Lib.hid m2.at_
  have HM1 := Lib.hid m1
  have HM2 := Lib.hid m2
  have HWW := Lib.hid m1.kept
  by_cases z1 : l1.length = 0
  · have hl : l1 = [] := List.eq_nil_of_length_eq_zero z1
    obtain ⟨e1, e2⟩ := mgL_nil1 o1 o2 l2 b2
    have en : spN o1 l1 o2 l2 ≤ 160 := by
      have : (mgL o1 [] o2 l2).length = l2.length := by rw [e2]
      unfold mgL at this; rw [rowF_length] at this; rw [hl, this]; exact b1
    have HR : Hid (mgOk o1 l1 o2 l2 = true ∧ mgO o1 l1 o2 l2 = o2 ∧ mgR o1 l1 o2 l2 = l2) := Lib.hid ⟨decide_eq_true en, by unfold mgO; rw [if_pos en, hl]; exact e1, by unfold mgR; rw [if_pos en, hl]; exact e2⟩
    have q : ((l1.length : Int) == 0) = true := beqT (by omega)
    clear m1 m2 hw0 hsb k0 z1 hl e1 e2 en a1 a2 a3 b1 b2 b3 h1 h2 hs
    go_enter Try.func45, Try.ntmps45
    go_upto_region 1 with fail
    rw [← HW0.out]
    obtain ⟨⟨x0, x1⟩, _⟩ := HSB.out.a.c
    obtain ⟨⟨y0, y1⟩, _⟩ := HSB.out.b.c
    obtain ⟨⟨r0, r1⟩, f0, f1⟩ := HSB.out.r.c
    go_wp2
    refine side2_end (o := o2) (v := .slice bo l2.length d) Try.results45 rfl rfl rfl (HSB.out.r.set o2 (.slice bo l2.length d)) ?_
    obtain ⟨r1, r2, r3⟩ := HR.out
    rw [r1, r2, r3]
    exact ⟨_, rfl, (HM2.out.on HK0.out).setBox HSB.out.r (by decide) (by have := HWW.out.size; omega) _ _, two_kept HK0.out (by omega)⟩
  · have q : ((l1.length : Int) == 0) = false := beqF (by omega)
    by_cases z2 : l2.length = 0
    · have hl : l2 = [] := List.eq_nil_of_length_eq_zero z2
      obtain ⟨e1, e2⟩ := mgL_nil2 o1 o2 l1 a2
      have en : spN o1 l1 o2 l2 ≤ 160 := by
        have : (mgL o1 l1 o2 []).length = l1.length := by rw [e2]
        unfold mgL at this; rw [rowF_length] at this; rw [hl, this]; exact a1
      have HR : Hid (mgOk o1 l1 o2 l2 = true ∧ mgO o1 l1 o2 l2 = o1 ∧ mgR o1 l1 o2 l2 = l1) := Lib.hid ⟨decide_eq_true en, by unfold mgO; rw [if_pos en, hl]; exact e1, by unfold mgR; rw [if_pos en, hl]; exact e2⟩
      have q2 : ((l2.length : Int) == 0) = true := beqT (by omega)
      clear m1 m2 hw0 hsb k0 z1 z2 hl e1 e2 en a1 a2 a3 b1 b2 b3 h1 h2 hs
      go_enter Try.func45, Try.ntmps45
      go_upto_region 1 with fail
      rw [← HW0.out]
      obtain ⟨⟨x0, x1⟩, _⟩ := HSB.out.a.c
      obtain ⟨⟨y0, y1⟩, _⟩ := HSB.out.b.c
      obtain ⟨⟨r0, r1⟩, f0, f1⟩ := HSB.out.r.c
      go_wp2
      refine side2_end (o := o1) (v := .slice ao l1.length c) Try.results45 rfl rfl rfl (HSB.out.r.set o1 (.slice ao l1.length c)) ?_
      obtain ⟨r1, r2, r3⟩ := HR.out
      rw [r1, r2, r3]
      exact ⟨_, rfl, (HM1.out.on HK0.out).setBox HSB.out.r (by decide) (by have := HWW.out.size; omega) _ _, two_kept HK0.out (by omega)⟩
    · have q2 : ((l2.length : Int) == 0) = false := beqF (by omega)
      obtain ⟨_, _, g1, g2⟩ := a3 z1
      obtain ⟨_, _, g3, g4⟩ := b3 z2
      obtain ⟨f1, f2, f3, f4, _⟩ := sp_facts o1 l1 o2 l2
      have f2 := f2 z1
      have f3 := f3 z2
      have hF : spF o1 l1 o2 l2 = min o1 o2 := by unfold spF; rw [if_neg z1, if_neg z2]
      have hT : spT o1 l1 o2 l2 = max (o1 + (l1.length : Int)) (o2 + (l2.length : Int)) := by unfold spT; rw [if_neg z1, if_neg z2]
      have hAll : rowF (spF o1 l1 o2 l2) (spN o1 l1 o2 l2) (fun i => atN o1 l1 i + atN o2 l2 i) = mgL o1 l1 o2 l2 := rfl
      have hok : mgOk o1 l1 o2 l2 = decide (spN o1 l1 o2 l2 ≤ 160) := rfl
      have ho : mgO o1 l1 o2 l2 = if spN o1 l1 o2 l2 ≤ 160 then spF o1 l1 o2 l2 else 0 := rfl
      have hr : mgR o1 l1 o2 l2 = if spN o1 l1 o2 l2 ≤ 160 then mgL o1 l1 o2 l2 else [] := rfl
      rw [hok, ho, hr, ← hAll]
      obtain ⟨F, hFF⟩ : ∃ F, F = spF o1 l1 o2 l2 := ⟨_, rfl⟩
      obtain ⟨T, hTT⟩ : ∃ T, T = spT o1 l1 o2 l2 := ⟨_, rfl⟩
      obtain ⟨N, hNN⟩ : ∃ N, N = spN o1 l1 o2 l2 := ⟨_, rfl⟩
      rw [← hFF] at f1 f2 f3 hF ⊢
      rw [← hTT] at f1 f2 f3 hT
      rw [← hNN] at f1 ⊢
      obtain ⟨OK, hOK⟩ : ∃ B, B = decide (N ≤ 160) := ⟨_, rfl⟩
      obtain ⟨OO, hOO⟩ : ∃ B, B = if N ≤ 160 then F else 0 := ⟨_, rfl⟩
      obtain ⟨RR, hRR⟩ : ∃ B, B = if N ≤ 160 then rowF F N (fun i => atN o1 l1 i + atN o2 l2 i) else [] := ⟨_, rfl⟩
      rw [← hOK, ← hOO, ← hRR]
      have HOK : Hid ((N ≤ 160 → OK = true ∧ OO = F ∧ RR = rowF F N (fun i => atN o1 l1 i + atN o2 l2 i)) ∧ (¬ N ≤ 160 → OK = false ∧ OO = 0 ∧ RR = [])) := Lib.hid ⟨fun h => ⟨by rw [hOK, decide_eq_true h], by rw [hOO, if_pos h], by rw [hRR, if_pos h]⟩, fun h => ⟨by rw [hOK, decide_eq_false h], by rw [hOO, if_neg h], by rw [hRR, if_neg h]⟩⟩
      clear hOK hOO hRR
      have s1 : IntKind.i64.wrap (o1 + (l1.length : Int)) = o1 + (l1.length : Int) := IntWalk.i64_in _ ⟨by omega, by omega⟩
      have s2 : IntKind.i64.wrap (o2 + (l2.length : Int)) = o2 + (l2.length : Int) := IntWalk.i64_in _ ⟨by omega, by omega⟩
      have HF := Lib.hid hF
      have HT := Lib.hid hT
      have HNT := Lib.hid f1
      have HIN1 := Lib.hid f2
      have HIN2 := Lib.hid f3
      have HSB1 : Hid (∀ i, 0 + atN o1 l1 i < 18446744073709551616) := Lib.hid fun i => by have := atN_le o1 i l1; omega
      have HSB2 : Hid (∀ i, atN o1 l1 i + atN o2 l2 i < 18446744073709551616) := Lib.hid fun i => by have := atN_le o1 i l1; have := atN_le o2 i l2; omega
      have HB : Hid ((-1073741824 ≤ F ∧ F ≤ 1073741824) ∧ N ≤ 3000000000) := Lib.hid (by omega)
      clear hF hT f1 f2 f3 f4 hFF hTT hNN hAll hok ho hr z1 z2 m1 m2 hw0 hsb k0 hs a1 a2 a3 b1 b2 b3 h1 h2
      go_enter Try.func45, Try.ntmps45
      go_upto_region 1 with fail
      rw [← HW0.out]
      obtain ⟨⟨x0, x1⟩, _⟩ := HSB.out.a.c
      obtain ⟨⟨y0, y1⟩, _⟩ := HSB.out.b.c
      go_upto_region 5 with fail
      go_cut [6] (fun s6 wc => s6 = .int .i64 F ∧ w0 = wc)
      case first =>
        go_wp2
        all_goals
          go_meet
          case rel => exact ⟨by rw [HF.out]; try (congr 1; omega), rfl⟩
      case rest =>
        obtain ⟨rfl, rfl⟩ := hcut
        obtain ⟨⟨F1, F2⟩, N1⟩ := HB.out
        go_upto_region 6 with fail
        go_cut [7] (fun s7 wc => s7 = .int .i64 N ∧ w0 = wc)
        case first =>
          go_wp2
          all_goals
            go_meet
            case rel => exact ⟨by have := HNT.out; have := HT.out; congr 1; omega, rfl⟩
        case rest =>
          obtain ⟨rfl, rfl⟩ := hcut
          by_cases hN : N ≤ 160
          · have HR := Lib.hid (HOK.out.1 hN)
            have qn : ¬ (160 : Int) < (N : Int) := by omega
            obtain ⟨iU, hiU, hzU0, hzU1, hzU2⟩ := info_parts Try.infoU64
            have hmk := fun w' => run_make1 (P := Try.prog) Try.underlying26 hiU hzU0 hzU1 rfl (by omega) N (by omega) w'
            have N0 : (0 : Int) ≤ (N : Int) := by omega
            obtain ⟨hb1, hb2, hb3⟩ := made0 HK0.out N F (by unfold maxLen; omega)
            clear hN
            go_upto_region 10 with fail
            obtain ⟨wc, hwc⟩ : ∃ wc, wc = (w0.alloc (.cells (Array.replicate N (.int .u64 0)) 25)).alloc (.cells #[.int .i64 F, .slice (some ⟨w0.heap.size, 0, none⟩) N N] 28) := ⟨_, rfl⟩
            rw [← hwc] at hb1 hb2 hb3 ⊢
            obtain ⟨G, hG⟩ : ∃ G, G = w0.heap.size := ⟨_, rfl⟩
            rw [← hG] at hb1 hb2 ⊢
            rw [← uvals_replicate, ← rowF_zero F N (fun _ => 0) (fun _ => rfl)] at hb2
            have HPB := Lib.hid hb1
            have HMC := Lib.hid hb2
            have HK3 := Lib.hid hb3
            have HGW : Hid (w.heap.size ≤ G) := Lib.hid (by rw [hG]; exact HK0.out.size)
            have HPG : Hid (¬ (G + 1 = G)) := Lib.hid (by omega)
            have HSBC := Lib.hid (HSB.out.on hb3)
            have HGS : Hid (G = w0.heap.size) := Lib.hid hG
            clear hwc hmk hb1 hb2 hb3 hG x0 x1 y0 y1
            obtain ⟨⟨x0, x1⟩, _⟩ := HSBC.out.a.c
            obtain ⟨⟨y0, y1⟩, _⟩ := HSBC.out.b.c
            have i0 : ∀ w, (Instr.index 91 (.agg #[.int .i64 o1, .slice ao l1.length c, .int .i64 o2, .slice bo l2.length d]) (.int .i64 0)).run Try.prog w = .ok (.agg #[.int .i64 o1, .slice ao l1.length c]) w := fun _ => by kernel_rfl
            have i1 : ∀ w, (Instr.index 91 (.agg #[.int .i64 o1, .slice ao l1.length c, .int .i64 o2, .slice bo l2.length d]) (.int .i64 1)).run Try.prog w = .ok (.agg #[.int .i64 o2, .slice bo l2.length d]) w := fun _ => by kernel_rfl
            go_wp2
            clear x0 x1 y0 y1
            go_loopg [10, 11, 12, 53, 54, 55, 56, 57, 58, 59, 60, 61, 62, 63, 64, 65, 66, 67, 68, 69, 70, 71, 72, 73, 74, 75, 76, 77, 78] 2 (fun g s10 s11 s12 s53 s54 s55 s56 s57 s58 s59 s60 s61 s62 s63 s64 s65 s66 s67 s68 s69 s70 s71 s72 s73 s74 s75 s76 s77 s78 wr => ∃ k : Nat, k ≤ 2 ∧ g = 2 - k ∧ s53 = .int .i64 k ∧ (k = 0 ∧ Mine w wr 25 (.slice (some ⟨G, 0, none⟩) N N) (uvals (rowF F N fun _ => 0)) ∨ k = 1 ∧ Mine w wr 25 (.slice (some ⟨G, 0, none⟩) N N) (uvals (rowF F N (atN o1 l1))) ∨ k = 2 ∧ Mine w wr 25 (.slice (some ⟨G, 0, none⟩) N N) (uvals (rowF F N fun i => atN o1 l1 i + atN o2 l2 i))) ∧ Kept (fun k => k = G) wc wr)
            case atStart => exact ⟨0, by omega, rfl, rfl, .inl ⟨rfl, HMC.out⟩, Kept.refl _ _⟩
            case round =>
              obtain ⟨k, hk2, rfl, rfl, hcase, hkw⟩ := hrel
              have HKW := Lib.hid hkw
              clear hkw
              rcases hcase with ⟨rfl, hmw⟩ | ⟨rfl, hmw⟩ | ⟨rfl, hmw⟩
              · -- the first side
                obtain ⟨h, hh⟩ : ∃ h : Int → Nat, h = fun _ => 0 := ⟨_, rfl⟩
                rw [← hh] at hmw
                have HBD : Hid (∀ i, h i + atN o1 l1 i < 18446744073709551616) := Lib.hid fun i => by rw [hh]; exact HSB1.out i
                have HH := Lib.hid hh
                have HMW := Lib.hid hmw
                clear hh hmw
                go_wp2
                obtain ⟨wa, hwa⟩ : ∃ wa, wa = wr.alloc (.cells #[.int .i64 o1, .slice ao l1.length c] 28) := ⟨_, rfl⟩
                have ka : Kept (fun _ => False) wr wa := by rw [hwa]; exact (Kept.refl _ _).alloc _
                have sx : SideBox wa wr.heap.size o1 (.slice ao l1.length c) := by rw [hwa]; exact heap_alloc_new wr _
                have HKA := Lib.hid (HKW.out.trans (ka.mono (fun _ _ x => x.elim)))
                have HSX := Lib.hid sx
                have HQG := Lib.hid (show wr.heap.size ≠ G from fun e => by have := (ownsRow_lt HMW.out.own (k := G) rfl).1; omega)
                have HMA := Lib.hid (HMW.out.on ka)
                rw [← hwa]
                clear hwa ka sx
                go_loopg [11, 12, 59, 60, 61, 62, 63, 64, 65, 66, 67, 68, 69, 70, 71, 72, 73, 74, 75, 76, 77] l1.length (fun g' s11 s12 s59 s60 s61 s62 s63 s64 s65 s66 s67 s68 s69 s70 s71 s72 s73 s74 s75 s76 s77 wx => ∃ m : Nat, m ≤ l1.length ∧ g' = l1.length - m ∧ s59 = .int .i64 m ∧ Mine w wx 25 (.slice (some ⟨G, 0, none⟩) N N) (uvals (rowF F N fun i => h i + atP o1 l1 m i)) ∧ Kept (fun k => k = G) wa wx)
                case atStart => exact ⟨0, Nat.zero_le _, rfl, rfl, by rw [rowF_congr F N _ h (fun j _ => by simp [atP_0])]; exact HMA.out, Kept.refl _ _⟩
                case round =>
                  obtain ⟨m, hml, rfl, rfl, hm, hk⟩ := hrel
                  have HMM := Lib.hid hm
                  have HKK := Lib.hid hk
                  obtain ⟨⟨p0, p1⟩, _⟩ := (HPB.out.same (HKA.out.trans hk) (fun e => HPG.out e)).c
                  obtain ⟨⟨s0, s1⟩, _⟩ := (HSX.out.same hk (fun e => HQG.out e)).c
                  clear hm hk
                  by_cases hd : m < l1.length
                  · have hdi : (m : Int) < (l1.length : Int) := by omega
                    have m0 : (0 : Int) ≤ (m : Int) := by omega
                    have HD := Lib.hid hd
                    obtain ⟨g2, off2, rfl, c0⟩ := (HV1.out.kept HMM.out.kept (fun _ _ x => x)).elem (uvals_get hd)
                    obtain ⟨y, hy⟩ : ∃ y, y = l1.getD m 0 := ⟨_, rfl⟩
                    rw [← hy] at c0
                    obtain ⟨s1', s2'⟩ := HIN1.out
                    obtain ⟨D, hD⟩ : ∃ D : Nat, (D : Int) = o1 - F + (m : Int) := ⟨(o1 - F + (m : Int)).toNat, by omega⟩
                    have hnt := HNT.out
                    have hDN : D < N := by omega
                    have hFD : F + (D : Int) = o1 + (m : Int) := by omega
                    obtain ⟨X, hX⟩ : ∃ X, X = h (F + (D : Int)) := ⟨_, rfl⟩
                    have hatn := atN_at o1 l1 m hd
                    have hbd := HBD.out (o1 + (m : Int))
                    rw [hatn, ← hFD, ← hX, ← hy] at hbd
                    obtain ⟨Y, hY⟩ : ∃ Y, Y = X + y := ⟨_, rfl⟩
                    have hgd : (rowF F N fun i => h i + atP o1 l1 m i).getD D 0 = X := by rw [rowF_get _ _ _ _ hDN, hFD, atP_at, ← hFD, ← hX, Nat.add_zero]
                    have hst : (rowF F N fun i => h i + atP o1 l1 (m + 1) i) = (rowF F N fun i => h i + atP o1 l1 m i).set D Y := by
                      rw [rowF_set F N (fun i => h i + atP o1 l1 m i) (fun i => h i + atP o1 l1 (m + 1) i) D hDN (fun i hi => by show h i + atP o1 l1 (m + 1) i = h i + atP o1 l1 m i; rw [atP_miss _ _ _ _ (by omega)])]
                      congr 1
                      show h (F + (D : Int)) + atP o1 l1 (m + 1) (F + (D : Int)) = Y
                      rw [hFD, atP_hit, ← hFD, ← hX, ← hy, hY]
                    have hmW : wr.ownsRow w.heap.size 25 1 (.slice (some ⟨G, 0, none⟩) N N) N (uvals (rowF F N fun i => h i + atP o1 l1 m i)) := by have := HMM.out.own; rwa [uvals_length, rowF_length] at this
                    have hcd := hmW.cellAt D (by omega)
                    rw [uvals_get (by rw [rowF_length]; exact hDN), hgd] at hcd
                    have hfd : wr.frozen? ⟨G, D, none⟩ = false := by
                      obtain ⟨cur, hc⟩ := ownsRow_block HMM.out.own (k := G) rfl
                      simp [World.frozen?, hc]
                    have t1 : IntKind.i64.wrap (o1 - F) = o1 - F := IntWalk.i64_in _ ⟨by omega, by omega⟩
                    have t2 : o1 - F + (m : Int) = (D : Int) := hD.symm
                    have t3 : IntKind.i64.wrap (D : Int) = (D : Int) := IntWalk.i64_in _ ⟨by omega, by omega⟩
                    have t4 : IntKind.u64.wrap ((X : Int) + (y : Int)) = (Y : Int) := by rw [IntKind.wrap_u64]; omega
                    have D0 : (0 : Int) ≤ (D : Int) := by omega
                    have DN : (D : Int) < (N : Int) := by omega
                    have HST := Lib.hid (show uvals (rowF F N fun i => h i + atP o1 l1 (m + 1) i) = (uvals (rowF F N fun i => h i + atP o1 l1 m i)).set D (.int .u64 (Y : Int)) by rw [uvals_set, hst])
                    have HMW2 := Lib.hid hmW
                    clear hst hgd hbd hatn hX hY hFD hD hDN hnt hy hd hmW
                    go_wp2
                    have HN : Mine w (wr.setCell ⟨G, D, none⟩ (.int .u64 (Y : Int))) 25 (.slice (some ⟨G, 0, none⟩) N N) (uvals (rowF F N fun i => h i + atP o1 l1 (m + 1) i)) ∧ Kept (fun k => k = G) wa (wr.setCell ⟨G, D, none⟩ (.int .u64 (Y : Int))) := by
                      refine ⟨?_, ?_⟩
                      · rw [HST.out]
                        exact Mine.ofFresh (owns_set HMW2.out D (.int .u64 (Y : Int))) (HMM.out.kept.newer ((Kept.refl (fun k => k = G) wr).setCell (p := ⟨G, D, none⟩) (fun _ => rfl) _) (fun i e => by rw [e]; exact HGW.out))
                      · exact HKK.out.setCell (fun _ => rfl) _
                    have HN := Lib.hid HN
                    go_roundg (l1.length - (m + 1))
                    case measure => have := HD.out; omega
                    case rel => exact ⟨m + 1, HD.out, rfl, by go_num, HN.out.1, HN.out.2⟩
                  · obtain rfl : m = l1.length := by omega
                    clear hd
                    go_wp2
                    go_roundg 1
                    case measure => omega
                    case rel => exact ⟨1, by omega, rfl, by rfl, .inr (.inl ⟨rfl, by rw [rowF_congr F N _ (fun i => h i + atP o1 l1 l1.length i) (fun j _ => by rw [HH.out]; simp [atP_all])]; exact HMM.out⟩), HKA.out.trans HKK.out⟩
              · -- the second side
                obtain ⟨h, hh⟩ : ∃ h : Int → Nat, h = atN o1 l1 := ⟨_, rfl⟩
                rw [← hh] at hmw
                have HBD : Hid (∀ i, h i + atN o2 l2 i < 18446744073709551616) := Lib.hid fun i => by rw [hh]; exact HSB2.out i
                have HH := Lib.hid hh
                have HMW := Lib.hid hmw
                clear hh hmw
                go_wp2
                obtain ⟨wa, hwa⟩ : ∃ wa, wa = wr.alloc (.cells #[.int .i64 o2, .slice bo l2.length d] 28) := ⟨_, rfl⟩
                have ka : Kept (fun _ => False) wr wa := by rw [hwa]; exact (Kept.refl _ _).alloc _
                have sx : SideBox wa wr.heap.size o2 (.slice bo l2.length d) := by rw [hwa]; exact heap_alloc_new wr _
                have HKA := Lib.hid (HKW.out.trans (ka.mono (fun _ _ x => x.elim)))
                have HSX := Lib.hid sx
                have HQG := Lib.hid (show wr.heap.size ≠ G from fun e => by have := (ownsRow_lt HMW.out.own (k := G) rfl).1; omega)
                have HMA := Lib.hid (HMW.out.on ka)
                rw [← hwa]
                clear hwa ka sx
                go_loopg [11, 12, 59, 60, 61, 62, 63, 64, 65, 66, 67, 68, 69, 70, 71, 72, 73, 74, 75, 76, 77] l2.length (fun g' s11 s12 s59 s60 s61 s62 s63 s64 s65 s66 s67 s68 s69 s70 s71 s72 s73 s74 s75 s76 s77 wx => ∃ m : Nat, m ≤ l2.length ∧ g' = l2.length - m ∧ s59 = .int .i64 m ∧ Mine w wx 25 (.slice (some ⟨G, 0, none⟩) N N) (uvals (rowF F N fun i => h i + atP o2 l2 m i)) ∧ Kept (fun k => k = G) wa wx)
                case atStart => exact ⟨0, Nat.zero_le _, rfl, rfl, by rw [rowF_congr F N _ h (fun j _ => by simp [atP_0])]; exact HMA.out, Kept.refl _ _⟩
                case round =>
                  obtain ⟨m, hml, rfl, rfl, hm, hk⟩ := hrel
                  have HMM := Lib.hid hm
                  have HKK := Lib.hid hk
                  obtain ⟨⟨p0, p1⟩, _⟩ := (HPB.out.same (HKA.out.trans hk) (fun e => HPG.out e)).c
                  obtain ⟨⟨s0, s1⟩, _⟩ := (HSX.out.same hk (fun e => HQG.out e)).c
                  clear hm hk
                  by_cases hd : m < l2.length
                  · have hdi : (m : Int) < (l2.length : Int) := by omega
                    have m0 : (0 : Int) ≤ (m : Int) := by omega
                    have HD := Lib.hid hd
                    obtain ⟨g2, off2, rfl, c0⟩ := (HV2.out.kept HMM.out.kept (fun _ _ x => x)).elem (uvals_get hd)
                    obtain ⟨y, hy⟩ : ∃ y, y = l2.getD m 0 := ⟨_, rfl⟩
                    rw [← hy] at c0
                    obtain ⟨s1', s2'⟩ := HIN2.out
                    obtain ⟨D, hD⟩ : ∃ D : Nat, (D : Int) = o2 - F + (m : Int) := ⟨(o2 - F + (m : Int)).toNat, by omega⟩
                    have hnt := HNT.out
                    have hDN : D < N := by omega
                    have hFD : F + (D : Int) = o2 + (m : Int) := by omega
                    obtain ⟨X, hX⟩ : ∃ X, X = h (F + (D : Int)) := ⟨_, rfl⟩
                    have hatn := atN_at o2 l2 m hd
                    have hbd := HBD.out (o2 + (m : Int))
                    rw [hatn, ← hFD, ← hX, ← hy] at hbd
                    obtain ⟨Y, hY⟩ : ∃ Y, Y = X + y := ⟨_, rfl⟩
                    have hgd : (rowF F N fun i => h i + atP o2 l2 m i).getD D 0 = X := by rw [rowF_get _ _ _ _ hDN, hFD, atP_at, ← hFD, ← hX, Nat.add_zero]
                    have hst : (rowF F N fun i => h i + atP o2 l2 (m + 1) i) = (rowF F N fun i => h i + atP o2 l2 m i).set D Y := by
                      rw [rowF_set F N (fun i => h i + atP o2 l2 m i) (fun i => h i + atP o2 l2 (m + 1) i) D hDN (fun i hi => by show h i + atP o2 l2 (m + 1) i = h i + atP o2 l2 m i; rw [atP_miss _ _ _ _ (by omega)])]
                      congr 1
                      show h (F + (D : Int)) + atP o2 l2 (m + 1) (F + (D : Int)) = Y
                      rw [hFD, atP_hit, ← hFD, ← hX, ← hy, hY]
                    have hmW : wr.ownsRow w.heap.size 25 1 (.slice (some ⟨G, 0, none⟩) N N) N (uvals (rowF F N fun i => h i + atP o2 l2 m i)) := by have := HMM.out.own; rwa [uvals_length, rowF_length] at this
                    have hcd := hmW.cellAt D (by omega)
                    rw [uvals_get (by rw [rowF_length]; exact hDN), hgd] at hcd
                    have hfd : wr.frozen? ⟨G, D, none⟩ = false := by
                      obtain ⟨cur, hc⟩ := ownsRow_block HMM.out.own (k := G) rfl
                      simp [World.frozen?, hc]
                    have t1 : IntKind.i64.wrap (o2 - F) = o2 - F := IntWalk.i64_in _ ⟨by omega, by omega⟩
                    have t2 : o2 - F + (m : Int) = (D : Int) := hD.symm
                    have t3 : IntKind.i64.wrap (D : Int) = (D : Int) := IntWalk.i64_in _ ⟨by omega, by omega⟩
                    have t4 : IntKind.u64.wrap ((X : Int) + (y : Int)) = (Y : Int) := by rw [IntKind.wrap_u64]; omega
                    have D0 : (0 : Int) ≤ (D : Int) := by omega
                    have DN : (D : Int) < (N : Int) := by omega
                    have HST := Lib.hid (show uvals (rowF F N fun i => h i + atP o2 l2 (m + 1) i) = (uvals (rowF F N fun i => h i + atP o2 l2 m i)).set D (.int .u64 (Y : Int)) by rw [uvals_set, hst])
                    have HMW2 := Lib.hid hmW
                    clear hst hgd hbd hatn hX hY hFD hD hDN hnt hy hd hmW
                    go_wp2
                    have HN : Mine w (wr.setCell ⟨G, D, none⟩ (.int .u64 (Y : Int))) 25 (.slice (some ⟨G, 0, none⟩) N N) (uvals (rowF F N fun i => h i + atP o2 l2 (m + 1) i)) ∧ Kept (fun k => k = G) wa (wr.setCell ⟨G, D, none⟩ (.int .u64 (Y : Int))) := by
                      refine ⟨?_, ?_⟩
                      · rw [HST.out]
                        exact Mine.ofFresh (owns_set HMW2.out D (.int .u64 (Y : Int))) (HMM.out.kept.newer ((Kept.refl (fun k => k = G) wr).setCell (p := ⟨G, D, none⟩) (fun _ => rfl) _) (fun i e => by rw [e]; exact HGW.out))
                      · exact HKK.out.setCell (fun _ => rfl) _
                    have HN := Lib.hid HN
                    go_roundg (l2.length - (m + 1))
                    case measure => have := HD.out; omega
                    case rel => exact ⟨m + 1, HD.out, rfl, by go_num, HN.out.1, HN.out.2⟩
                  · obtain rfl : m = l2.length := by omega
                    clear hd
                    go_wp2
                    go_roundg 0
                    case measure => omega
                    case rel => exact ⟨2, by omega, rfl, by rfl, .inr (.inr ⟨rfl, by rw [rowF_congr F N _ (fun i => h i + atP o2 l2 l2.length i) (fun j _ => by rw [HH.out]; simp [atP_all])]; exact HMM.out⟩), HKA.out.trans HKK.out⟩
              · -- both are done
                have HMW := Lib.hid hmw
                obtain ⟨⟨p0, p1⟩, _⟩ := (HPB.out.same HKW.out (fun e => HPG.out e)).c
                have hr3 := HSBC.out.r.same HKW.out (fun e => by have := HGS.out; have h0 := HSB.out.r; have := (Array.getElem?_eq_some_iff.1 h0).1; omega)
                have HR3 := Lib.hid hr3
                obtain ⟨⟨r0, r1⟩, f0, f1⟩ := hr3.c
                clear hmw hr3 hk2
                go_wp2
                refine side2_end (o := F) (v := .slice (some ⟨G, 0, none⟩) N N) Try.results45 rfl rfl rfl (HR3.out.set _ _) ?_
                obtain ⟨r1, r2, r3⟩ := HR.out
                rw [r1, r2, r3]
                exact ⟨_, rfl, (HMW.out.down HWW.out).setBox HR3.out (by decide) (by have := HWW.out.size; omega) _ _, two_kept HMW.out.kept (by omega)⟩
          · have HR := Lib.hid (HOK.out.2 hN)
            have qn : (160 : Int) < (N : Int) := by omega
            obtain ⟨⟨r0, r1⟩, f0, f1⟩ := HSB.out.r.c
            clear hN
            go_wp2
            refine side2_end (o := 0) (v := .slice none 0 0) Try.results45 rfl rfl rfl (HSB.out.r.set 0 (.slice none 0 0)) ?_
            obtain ⟨r1, r2, r3⟩ := HR.out
            rw [r1, r2, r3]
            exact ⟨_, rfl, Mine.nil' _ (two_kept (HWW.out.trans HK0.out) (by have := HWW.out.size; omega)), two_kept HK0.out (by omega)⟩
end Go.Proofs.Ytiiibhdohlpodaa
namespace Go.Proofs.Ytiiibhdohlpodaa
open Go.RowKit
attribute [local go_sem ↓] Go.wp_at_zero Go.wp_at_succ
/-- Boxes but that of a side that is made. -/
structure BothBx (w wr : World) (p : Nat) (o1 o2 o3 o4 : Int) (v1 v2 v3 v4 : Value) : Prop where
  a : SideBox wr w.heap.size o1 v1
  b : SideBox wr (w.heap.size + 1) o2 v2
  r : SideBox wr (w.heap.size + 1 + 1) o3 v3
  b4 : SideBox wr p o4 v4
  lt : w.heap.size + 1 + 1 < p
theorem BothBx.on {w wr w' : World} {p : Nat} {o1 o2 o3 o4 : Int} {v1 v2 v3 v4 : Value} (h : BothBx w wr p o1 o2 o3 o4 v1 v2 v3 v4) (k : Kept (fun _ => False) wr w') : BothBx w w' p o1 o2 o3 o4 v1 v2 v3 v4 := ⟨h.a.same k (fun x => x), h.b.same k (fun x => x), h.r.same k (fun x => x), h.b4.same k (fun x => x), h.lt⟩
theorem BothBx.cells {w wr : World} {p : Nat} {o1 o2 o3 o4 : Int} {v1 v2 v3 v4 : Value} (h : BothBx w wr p o1 o2 o3 o4 v1 v2 v3 v4) : wr.cell? ⟨p, 1, none⟩ = some v4 ∧ (wr.cell? ⟨w.heap.size, 0, none⟩ = some (.int .i64 o1) ∧ wr.cell? ⟨w.heap.size, 1, none⟩ = some v1) ∧ (wr.cell? ⟨w.heap.size + 1, 0, none⟩ = some (.int .i64 o2) ∧ wr.cell? ⟨w.heap.size + 1, 1, none⟩ = some v2) :=
  ⟨h.b4.c.1.2, h.a.c.1, h.b.c.1⟩
/-- The same, with what is made. -/
structure BothAt (w wr : World) (p : Nat) (o1 o2 o3 o4 : Int) (v1 v2 v3 v4 : Value) (l : List Nat) : Prop where
  bx : BothBx w wr p o1 o2 o3 o4 v1 v2 v3 v4
  own : Mine w wr 25 v4 (uvals l)
theorem BothAt.on {w wr w' : World} {p : Nat} {o1 o2 o3 o4 : Int} {v1 v2 v3 v4 : Value} {l : List Nat} (h : BothAt w wr p o1 o2 o3 o4 v1 v2 v3 v4 l) (k : Kept (fun _ => False) wr w') : BothAt w w' p o1 o2 o3 o4 v1 v2 v3 v4 l := ⟨h.bx.on k, h.own.on k⟩
theorem BothAt.cells {w wr : World} {p : Nat} {o1 o2 o3 o4 : Int} {v1 v2 v3 v4 : Value} {l : List Nat} (h : BothAt w wr p o1 o2 o3 o4 v1 v2 v3 v4 l) : wr.cell? ⟨p, 1, none⟩ = some v4 ∧ (wr.cell? ⟨w.heap.size, 0, none⟩ = some (.int .i64 o1) ∧ wr.cell? ⟨w.heap.size, 1, none⟩ = some v1) ∧ (wr.cell? ⟨w.heap.size + 1, 0, none⟩ = some (.int .i64 o2) ∧ wr.cell? ⟨w.heap.size + 1, 1, none⟩ = some v2) := h.bx.cells
theorem BothAt.grow {w wr w' : World} {p : Nat} {o1 o2 o3 o4 : Int} {v1 v2 v3 v4 : Value} {l : List Nat} (h : BothAt w wr p o1 o2 o3 o4 v1 v2 v3 v4 l) (k : Kept (fun k => v4.ownBlock = some k) wr w') : BothBx w w' p o1 o2 o3 o4 v1 v2 v3 v4 :=
  ⟨h.bx.a.same k (own_box h.own.own h.bx.a (by decide)), h.bx.b.same k (own_box h.own.own h.bx.b (by decide)), h.bx.r.same k (own_box h.own.own h.bx.r (by decide)), h.bx.b4.same k (own_box h.own.own h.bx.b4 (by decide)), h.bx.lt⟩
theorem BothBx.set1 {w wr : World} {p : Nat} {o1 o2 o3 o4 : Int} {v1 v2 v3 v4 v' : Value} {l' : List Nat} (h : BothBx w wr p o1 o2 o3 o4 v1 v2 v3 v4) (hm : Mine w wr 25 v' (uvals l')) : BothAt w (wr.setCell ⟨p, 1, none⟩ v') p o1 o2 o3 o4 v1 v2 v3 v' l' := by
  have k := setCell_kept wr p 1 v'
  have hlt := h.lt
  refine ⟨⟨h.a.same k (by omega), h.b.same k (by omega), h.r.same k (by omega), h.b4.set1 v', h.lt⟩, ?_⟩
  exact hm.keptS k (fun j e x => own_box hm.own h.b4 (by decide) (by rw [e, x])) (fun j e => by omega)
theorem BothAt.mk0 {w w0 w1 : World} {o1 o2 : Int} {v1 v2 : Value} (h : SB3 w w0 o1 o2 0 v1 v2 (.slice none 0 0)) (hw : Kept (fun _ => False) w w0) (k : Kept (fun _ => False) w0 w1) (F : Int) : BothAt w (w1.alloc (.cells #[.int .i64 F, .slice none 0 0] 28)) w1.heap.size o1 o2 0 F v1 v2 (.slice none 0 0) (.slice none 0 0) [] := by
  have k2 := k.alloc (.cells #[.int .i64 F, .slice none 0 0] 28)
  have h2 := h.on k2
  refine ⟨⟨h2.a, h2.b, h2.r, heap_alloc_new w1 _, ?_⟩, Mine.nil' _ (hw.trans k2)⟩
  have := (Array.getElem?_eq_some_iff.1 h.r).1
  have := k.size
  omega
set_option maxHeartbeats 4000000 in
set_option maxRecDepth 100000 in
theorem refBoth_any (o1 : Int) (l1 : List Nat) (o2 : Int) (l2 : List Nat) (v1 v2 : Value) (w : World) (m1 : SlAt w v1 (uvals l1)) (m2 : SlAt w v2 (uvals l2)) (h1 : sideE o1 l1 = 0) (h2 : sideE o2 l2 = 0) (hs : l1.sum + l2.sum < 18446744073709551616) :
    Calls Try.prog 83 #[.agg #[.int .i64 o1, v1], .agg #[.int .i64 o2, v2]] w (SideTry w w (mgOk o1 l1 o2 l2) (mgO o1 l1 o2 l2) (mgR o1 l1 o2 l2)) := by
  obtain ⟨a1, a2, a3⟩ := sideE_zero h1
  obtain ⟨b1, b2, b3⟩ := sideE_zero h2
  obtain ⟨r1, r2⟩ := (side_range h1).1
  obtain ⟨r3, r4⟩ := (side_range h2).1
  obtain ⟨ao, c, hval1, _, _⟩ := m1.val
  obtain ⟨bo, d, hval2, _, _⟩ := m2.val
  rw [uvals_length] at hval1 hval2
  subst hval1 hval2
  have hsb := SB3.mk0 w o1 o2 (.slice ao l1.length c) (.slice bo l2.length d)
  obtain ⟨w0, hw0⟩ : ∃ w0, w0 = (((w.alloc (.cells #[.int .i64 o1, .slice ao l1.length c] 28)).alloc (.cells #[.int .i64 o2, .slice bo l2.length d] 28)).alloc (.cells #[.int .i64 0, .slice none 0 0] 28)) := ⟨_, rfl⟩
  rw [← hw0] at hsb
  have k0 : Kept (fun _ => False) w w0 := by rw [hw0]; exact (((Kept.refl _ w).alloc _).alloc _).alloc _
  have HW0 := Lib.hid hw0
  have HSB := Lib.hid hsb
  have HK0 := Lib.hid k0
  have HV1 := Lib.hid m1
  have HV2 := Lib.hid m2
  have hr := reach_any o1 l1 o2 l2 _ _ w0 (m1.kept k0 (fun _ _ x => x)) (m2.kept k0 (fun _ _ x => x)) ⟨r1, r2⟩ ⟨r3, r4⟩ (by omega) (by omega)
  unfold reachV at hr
  obtain ⟨f1, f2, f3, f4, f5⟩ := sp_facts o1 l1 o2 l2
  have HA1 := Lib.hid fun w' (k : SlAt w' (.slice ao l1.length c) (uvals l1)) i (hi : -1000000000000 ≤ i ∧ i ≤ 1000000000000) => refAt9_any o1 i l1 _ w' k ⟨r1, r2⟩ hi (by omega)
  have HA2 := Lib.hid fun w' (k : SlAt w' (.slice bo l2.length d) (uvals l2)) i (hi : -1000000000000 ≤ i ∧ i ≤ 1000000000000) => refAt9_any o2 i l2 _ w' k ⟨r3, r4⟩ hi (by omega)
  by_cases hz : l1.length = 0 ∧ l2.length = 0
  · obtain ⟨z1, z2⟩ := hz
    obtain ⟨e1, e2⟩ := f5 z1 z2
    rw [if_pos ⟨z1, z2⟩, decide_eq_false (by omega), e1] at hr
    rw [hw0] at hr
    have en : spN o1 l1 o2 l2 = 0 := by omega
    have HR : Hid (mgOk o1 l1 o2 l2 = true ∧ mgO o1 l1 o2 l2 = 0 ∧ mgR o1 l1 o2 l2 = []) := Lib.hid ⟨decide_eq_true (by omega), by unfold mgO; rw [if_pos (by omega)]; exact e1, by unfold mgR; rw [if_pos (by omega)]; unfold mgL; rw [en]; rfl⟩
    have HC := Lib.hid hr
    clear hr m1 m2 hw0 hsb k0 z1 z2 e1 e2 en a1 a2 a3 b1 b2 b3 h1 h2 hs f1 f2 f3 f4 f5 r1 r2 r3 r4
    go_enter Try.func83, Try.ntmps83
    go_wp2_with fail
    refine HC.out.mono ?_
    rintro e w1 ⟨rfl, k1⟩
    rw [← HW0.out] at k1
    have HK1 := Lib.hid (HK0.out.trans k1)
    have hx := HSB.out.on k1
    have HX := Lib.hid hx
    obtain ⟨⟨x0, x1⟩, g0, g1⟩ := hx.r.c
    clear k1 hx
    go_wp2
    refine side2_end (o := 0) (v := .slice none 0 0) Try.results83 rfl rfl rfl (HX.out.r.set 0 (.slice none 0 0)) ?_
    obtain ⟨r1, r2, r3⟩ := HR.out
    rw [r1, r2, r3]
    exact ⟨_, rfl, Mine.nil' _ (two_kept HK1.out (by omega)), two_kept HK1.out (by omega)⟩
  · have hz' : l1.length ≠ 0 ∨ l2.length ≠ 0 := by omega
    rw [if_neg hz, decide_eq_true hz'] at hr
    rw [hw0] at hr
    have hF : -2000000000 ≤ spF o1 l1 o2 l2 ∧ spF o1 l1 o2 l2 ≤ 2000000000 ∧ -2000000000 ≤ spT o1 l1 o2 l2 ∧ spT o1 l1 o2 l2 ≤ 2000000000 := by
      obtain ⟨g1, g2⟩ := f4 hz'
      rcases g1 with ⟨z, e⟩ | ⟨z, e⟩ <;> rcases g2 with ⟨y, e'⟩ | ⟨y, e'⟩
      · have := a3 z; omega
      · have := a3 z; have := b3 y; omega
      · have := b3 z; have := a3 y; omega
      · have := b3 z; omega
    have hAll : rowF (spF o1 l1 o2 l2) (spN o1 l1 o2 l2) (fun i => atN o1 l1 i + atN o2 l2 i) = mgL o1 l1 o2 l2 := rfl
    have hok : mgOk o1 l1 o2 l2 = decide (spN o1 l1 o2 l2 ≤ 160) := rfl
    have ho : mgO o1 l1 o2 l2 = if spN o1 l1 o2 l2 ≤ 160 then spF o1 l1 o2 l2 else 0 := rfl
    have hrr : mgR o1 l1 o2 l2 = if spN o1 l1 o2 l2 ≤ 160 then mgL o1 l1 o2 l2 else [] := rfl
    rw [hok, ho, hrr, ← hAll]
    obtain ⟨F, hFF⟩ : ∃ F, F = spF o1 l1 o2 l2 := ⟨_, rfl⟩
    obtain ⟨T, hTT⟩ : ∃ T, T = spT o1 l1 o2 l2 := ⟨_, rfl⟩
    obtain ⟨N, hNN⟩ : ∃ N, N = spN o1 l1 o2 l2 := ⟨_, rfl⟩
    rw [← hFF, ← hTT] at f1 hF hr
    rw [← hFF]
    rw [← hNN] at f1 ⊢
    obtain ⟨g, hg⟩ : ∃ g : Int → Nat, g = fun i => atN o1 l1 i + atN o2 l2 i := ⟨_, rfl⟩
    rw [← hg]
    have HG : Hid (∀ i, atN o1 l1 i + atN o2 l2 i = g i ∧ g i < 18446744073709551616) := Lib.hid fun i => by have := atN_le o1 i l1; have := atN_le o2 i l2; rw [hg]; exact ⟨rfl, by simp only; omega⟩
    obtain ⟨OK, hOK⟩ : ∃ B, B = decide (N ≤ 160) := ⟨_, rfl⟩
    obtain ⟨OO, hOO⟩ : ∃ B, B = if N ≤ 160 then F else 0 := ⟨_, rfl⟩
    obtain ⟨RR, hRR⟩ : ∃ B, B = if N ≤ 160 then rowF F N g else [] := ⟨_, rfl⟩
    rw [← hOK, ← hOO, ← hRR]
    have HOK : Hid ((N ≤ 160 → OK = true ∧ OO = F ∧ RR = rowF F N g) ∧ (¬ N ≤ 160 → OK = false ∧ OO = 0 ∧ RR = [])) := Lib.hid ⟨fun h => ⟨by rw [hOK, decide_eq_true h], by rw [hOO, if_pos h], by rw [hRR, if_pos h]⟩, fun h => ⟨by rw [hOK, decide_eq_false h], by rw [hOO, if_neg h], by rw [hRR, if_neg h]⟩⟩
    have HC := Lib.hid hr
    have t1 : IntKind.i64.wrap (T - 1 - F) = T - 1 - F := IntWalk.i64_in _ ⟨by omega, by omega⟩
    obtain ⟨F1, F2, F3, F4⟩ := hF
    have HNT := Lib.hid f1
    clear hr hOK hOO hRR hg hAll hok ho hrr hFF hTT hNN m1 m2 hw0 hsb k0 hz hz' a1 a2 a3 b1 b2 b3 h1 h2 hs f2 f3 f4 f5 r1 r2 r3 r4
    by_cases hN : N ≤ 160
    · have HR := Lib.hid (HOK.out.1 hN)
      have qn : ¬ (160 : Int) ≤ T - 1 - F := by omega
      have HN := Lib.hid hN
      clear hN f1
      go_enter Try.func83, Try.ntmps83
      go_wp2_with fail
      refine HC.out.mono ?_
      rintro e w1 ⟨rfl, k1⟩
      rw [← HW0.out] at k1
      have HK1 := Lib.hid k1
      have hat := BothAt.mk0 HSB.out HK0.out k1 F
      obtain ⟨p, hp⟩ : ∃ p, p = w1.heap.size := ⟨_, rfl⟩
      obtain ⟨wb, hwb⟩ : ∃ wb, wb = w1.alloc (.cells #[.int .i64 F, .slice none 0 0] 28) := ⟨_, rfl⟩
      rw [← hwb, ← hp] at hat
      have HAT := Lib.hid hat
      have HWB := Lib.hid hwb
      have HP := Lib.hid hp
      clear k1 hat hwb hp
      go_wp2
      rw [← HWB.out, ← HP.out]
      go_loopg [10, 29, 30, 31, 32, 33, 34, 35, 36, 37, 38, 39, 40, 41, 42, 43, 44, 45] N (fun g' s10 s29 s30 s31 s32 s33 s34 s35 s36 s37 s38 s39 s40 s41 s42 s43 s44 s45 wr => ∃ (m : Nat) (v3 : Value), m ≤ N ∧ g' = N - m ∧ s10 = .int .i64 (F + (m : Int)) ∧ BothAt w wr p o1 o2 0 F (.slice ao l1.length c) (.slice bo l2.length d) (.slice none 0 0) v3 (rowF F m g))
      case atStart => exact ⟨0, _, Nat.zero_le _, rfl, by simp, HAT.out⟩
      case round =>
        obtain ⟨m, v3, hml, rfl, rfl, hat⟩ := hrel
        by_cases hd : m < N
        · have HD := Lib.hid hd
          obtain ⟨a3, q3, rfl⟩ := hat.own.slice
          obtain ⟨L, hL⟩ : ∃ L, L = rowF F m g := ⟨_, rfl⟩
          rw [← hL] at hat
          have HLL := Lib.hid (show L.length ≤ 1000 by rw [hL, rowF_length]; have := HN.out; omega)
          have HDA := Lib.hid hat
          have HD0 := Lib.hid (hat.on ((Kept.refl (fun _ => False) wr).drew))
          obtain ⟨i, hi⟩ : ∃ i, i = F + (m : Int) := ⟨_, rfl⟩
          rw [← hi]
          have hnt := HNT.out
          have hiT : i ≤ T - 1 := by omega
          have HI := Lib.hid (show -1000000000000 ≤ i ∧ i ≤ 1000000000000 by omega)
          obtain ⟨g1, g2⟩ := HG.out i
          obtain ⟨A1, hA1⟩ : ∃ x, x = atN o1 l1 i := ⟨_, rfl⟩
          obtain ⟨A2, hA2⟩ : ∃ x, x = atN o2 l2 i := ⟨_, rfl⟩
          obtain ⟨Y, hY⟩ : ∃ Y, Y = g i := ⟨_, rfl⟩
          rw [← hA1, ← hA2, ← hY] at g1
          rw [← hY] at g2
          have u1 : IntKind.u64.wrap ((A1 : Int) + (A2 : Int)) = (Y : Int) := by rw [IntKind.wrap_u64]; omega
          have u2 : (A1 : Int) + (A2 : Int) = (Y : Int) := by omega
          have u3 : IntKind.u64.wrap (Y : Int) = (Y : Int) := by rw [IntKind.wrap_u64]; omega
          have ha1 := fun w' k => HA1.out w' k i HI.out
          have ha2 := fun w' k => HA2.out w' k i HI.out
          rw [← hA1] at ha1
          rw [← hA2] at ha2
          have HB1 := Lib.hid ha1
          have HB2 := Lib.hid ha2
          have HNEXT := Lib.hid (show rowF F (m + 1) g = L ++ [Y] by rw [rowF_succ, hL, hY, hi])
          have i1 : i + 1 = F + ((m + 1 : Nat) : Int) := by omega
          have i2 : IntKind.i64.wrap (i + 1) = i + 1 := IntWalk.i64_in _ ⟨by omega, by omega⟩
          have I1 := Lib.hid i1
          clear ha1 ha2 hA1 hA2 hY g1 g2 hL hd hnt i1 hat hi
          go_wp2
          refine AnyBut.start (S := fun w' => w'.cell? ⟨p, 1, none⟩ = some (.slice a3 (uvals L).length q3) ∧ (w'.cell? ⟨w.heap.size, 0, none⟩ = some (.int .i64 o1) ∧ w'.cell? ⟨w.heap.size, 1, none⟩ = some (.slice ao l1.length c)) ∧ (w'.cell? ⟨w.heap.size + 1, 0, none⟩ = some (.int .i64 o2) ∧ w'.cell? ⟨w.heap.size + 1, 1, none⟩ = some (.slice bo l2.length d))) (k := 12) (by kernel_rfl) ?_
          refine AnyBut.take (i := 0) (v := ?v0) rfl (by kernel_rfl) (by kernel_rfl) (by kernel_rfl) (by kernel_rfl) (fun _ _ _ h => h) (HD0.out.cells) (Or.inl ⟨by rfl, ?hy0⟩) ?r0
          case hy0 =>
            intro w hSw
            try dsimp only at hSw
            go_simp
            try with_reducible rfl
          try simp only [Act.put, List.setIfInBounds_toArray]
          refine AnyBut.take (i := 1) (v := ?v1) rfl (by kernel_rfl) (by kernel_rfl) (by kernel_rfl) (by kernel_rfl) (fun _ _ _ h => h) (HD0.out.cells) (Or.inl ⟨by rfl, ?hy1⟩) ?r1
          case hy1 =>
            intro w hSw
            try dsimp only at hSw
            go_simp
            try with_reducible rfl
          try simp only [Act.put]
          refine AnyBut.take (i := 2) (v := ?v2) rfl (by kernel_rfl) (by kernel_rfl) (by kernel_rfl) (by kernel_rfl) (fun _ _ _ h => h) (HD0.out.cells) (Or.inl ⟨by rfl, ?hy2⟩) ?r2
          case hy2 =>
            intro w hSw
            try dsimp only at hSw
            go_simp
            try with_reducible rfl
          try simp only [Act.put]
          refine AnyBut.take (i := 3) (v := ?v3) rfl (by kernel_rfl) (by kernel_rfl) (by kernel_rfl) (by kernel_rfl) (fun _ _ _ h => h) (HD0.out.cells) (Or.inl ⟨by rfl, ?hy3⟩) ?r3
          case hy3 =>
            intro w hSw
            try dsimp only at hSw
            go_simp
            try with_reducible rfl
          try simp only [Act.put]
          refine AnyBut.take (i := 5) (v := ?v5) rfl (by kernel_rfl) (by kernel_rfl) (by kernel_rfl) (by kernel_rfl) (fun _ _ _ h => h) (HD0.out.cells) (Or.inl ⟨by rfl, ?hy5⟩) ?r5
          case hy5 =>
            intro w hSw
            try dsimp only at hSw
            go_simp
            try with_reducible rfl
          try simp only [Act.put]
          refine AnyBut.take (i := 6) (v := ?v6) rfl (by kernel_rfl) (by kernel_rfl) (by kernel_rfl) (by kernel_rfl) (fun _ _ _ h => h) (HD0.out.cells) (Or.inl ⟨by rfl, ?hy6⟩) ?r6
          case hy6 =>
            intro w hSw
            try dsimp only at hSw
            go_simp
            try with_reducible rfl
          try simp only [Act.put]
          refine AnyBut.one (i := 4) (by kernel_rfl) rfl (fun K hK => ?_)
          go_simp
          go_wp2_with (go_at_call 108; refine (HB1.out _ (HV1.out.kept HD0.out.own.kept (fun _ _ x => x))).mono ?_; rintro e w4 ⟨rfl, k4⟩; have HD4 := Lib.hid (HD0.out.on k4); clear k4)
          refine hK.out _ _ (HD4.out.cells) ?_
          clear hK K
          try simp only [Act.put, List.setIfInBounds_toArray, List.set_cons_zero, List.set_cons_succ]
          refine AnyBut.one (i := 7) (by kernel_rfl) rfl (fun K hK => ?_)
          go_simp
          go_wp2_with (go_at_call 108; refine (HB2.out _ (HV2.out.kept HD4.out.own.kept (fun _ _ x => x))).mono ?_; rintro e w7 ⟨rfl, k7⟩; have HD7 := Lib.hid (HD4.out.on k7); clear k7)
          refine hK.out _ _ (HD7.out.cells) ?_
          clear hK K
          try simp only [Act.put, List.setIfInBounds_toArray, List.set_cons_zero, List.set_cons_succ]
          refine AnyBut.take (i := 8) (v := ?v8) rfl (by kernel_rfl) (by kernel_rfl) (by kernel_rfl) (by kernel_rfl) (fun _ _ _ h => h) (HD7.out.cells) (Or.inl ⟨by rfl, ?hy8⟩) ?r8
          case hy8 =>
            intro w hSw
            try dsimp only at hSw
            go_simp
            try with_reducible rfl
          try simp only [Act.put, List.setIfInBounds_toArray]
          refine AnyBut.one (i := 9) (by kernel_rfl) rfl (fun K hK => ?_)
          go_simp
          have HD9 := Lib.hid (HD7.out.on ((Kept.refl (fun _ => False) w7).alloc (.cells #[(.int .u64 (Y : Int))] 25)))
          have HSRC := Lib.hid (src_oneU w7 (.int .u64 (Y : Int)) rfl)
          refine hK.out _ _ (HD9.out.cells) ?_
          clear hK K
          try simp only [Act.put, List.setIfInBounds_toArray, List.set_cons_zero, List.set_cons_succ]
          refine AnyBut.one (i := 10) (by kernel_rfl) rfl (fun K hK => ?_)
          refine step_mineU (by rfl) (.tmp 35) (.tmp 43) (by rfl) w _ _ (by rfl) HD9.out.own _ [(.int .u64 (Y : Int))] (by rfl) HSRC.out (by have := HLL.out; simp only [List.length_singleton, uvals_length]; omega) ?_
          intro v8 w8 hm8 hk8 _
          have HM8 := Lib.hid hm8
          have hd8 := HD9.out.grow hk8
          have HD8 := Lib.hid hd8
          obtain ⟨a8, c8, rfl⟩ := hm8.slice
          obtain ⟨⟨_, g1⟩, g2, g3⟩ := hd8.b4.c
          clear hm8 hk8 hd8
          refine hK.out _ _ (HD8.out.cells) ?_
          clear hK K
          try simp only [Act.put, List.setIfInBounds_toArray]
          refine AnyBut.take (i := 11) (v := ?v11) rfl (by kernel_rfl) (by kernel_rfl) (by kernel_rfl) (by kernel_rfl) (fun _ _ _ h => h) (HD8.out.cells) (Or.inl ⟨by rfl, ?hy11⟩) ?r11
          case hy11 =>
            intro w hSw
            try dsimp only at hSw
            go_simp
            try with_reducible rfl
          try simp only [Act.put]
          refine AnyBut.last (by kernel_rfl) rfl (by kernel_rfl) (fun K hK => ?_)
          go_simp
          refine hK.out _ _ ?_
          clear hK K
          try simp only [Act.put, List.setIfInBounds_toArray, List.set_cons_zero, List.set_cons_succ]
          go_wp2
          have hm8 := HM8.out
          rw [List.length_append, List.length_singleton] at hm8
          have HF := Lib.hid (BothBx.set1 (l' := L ++ [Y]) HD8.out (by rw [uvals_append]; exact hm8))
          clear hm8
          go_roundg (N - (m + 1))
          case measure => have := HD.out; omega
          case rel => exact ⟨m + 1, _, HD.out, rfl, by rw [I1.out], by rw [HNEXT.out]; exact HF.out⟩
        · obtain rfl : m = N := by omega
          have qT : ¬ F + (m : Int) ≤ T - 1 := by have := HNT.out; omega
          obtain ⟨a3, q3, rfl⟩ := hat.own.slice
          have HA := Lib.hid hat
          obtain ⟨⟨p0, p1⟩, _⟩ := hat.bx.b4.c
          obtain ⟨⟨r0, r1⟩, g0, g1⟩ := hat.bx.r.c
          clear hat hd
          go_wp2
          refine side2_end (o := F) (v := .slice a3 (uvals (rowF F m g)).length q3) Try.results83 rfl rfl rfl (HA.out.bx.r.set _ _) ?_
          obtain ⟨r1, r2, r3⟩ := HR.out
          rw [r1, r2, r3]
          exact ⟨_, rfl, HA.out.own.setBox HA.out.bx.r (by decide) (by omega) _ _, two_kept HA.out.own.kept (by omega)⟩
    · have HR := Lib.hid (HOK.out.2 hN)
      have qn : (160 : Int) ≤ T - 1 - F := by omega
      clear hN f1
      go_enter Try.func83, Try.ntmps83
      go_wp2_with fail
      refine HC.out.mono ?_
      rintro e w1 ⟨rfl, k1⟩
      rw [← HW0.out] at k1
      have HK1 := Lib.hid (HK0.out.trans k1)
      have hx := HSB.out.on k1
      have HX := Lib.hid hx
      obtain ⟨⟨x0, x1⟩, g0, g1⟩ := hx.r.c
      clear k1 hx
      go_wp2
      refine side2_end (o := 0) (v := .slice none 0 0) Try.results83 rfl rfl rfl (HX.out.r.set 0 (.slice none 0 0)) ?_
      obtain ⟨r1, r2, r3⟩ := HR.out
      rw [r1, r2, r3]
      exact ⟨_, rfl, Mine.nil' _ (two_kept HK1.out (by omega)), two_kept HK1.out (by omega)⟩
end Go.Proofs.Ytiiibhdohlpodaa
namespace Go.Proofs.Ytiiibhdohlpodaa
open Go.RowKit
attribute [local go_sem ↓] Go.wp_at_zero Go.wp_at_succ
/-- What is left of a side, or that it hadn't so much. -/
def SubRes (o1 : Int) (l1 : List Nat) (o2 : Int) (l2 : List Nat) (ok : Bool) (o : Int) (l : List Nat) : Prop :=
  (ok = true ∧ hasS o1 l1 o2 l2 ∧ TrimOf o1 (lsL o1 l1 o2 l2) o l) ∨ (ok = false ∧ ¬ hasS o1 l1 o2 l2 ∧ o = 0 ∧ l = [])
theorem SubRes.uniq {o1 : Int} {l1 : List Nat} {o2 : Int} {l2 : List Nat} {k k' : Bool} {o o' : Int} {l l' : List Nat} (h : SubRes o1 l1 o2 l2 k o l) (h' : SubRes o1 l1 o2 l2 k' o' l') : k = k' ∧ o = o' ∧ l = l' := by
  rcases h with ⟨rfl, a, t⟩ | ⟨rfl, a, rfl, rfl⟩ <;> rcases h' with ⟨rfl, a', t'⟩ | ⟨rfl, a', rfl, rfl⟩
  · exact ⟨rfl, TrimOf.uniq t t'⟩
  · exact absurd a a'
  · exact absurd a' a
  · exact ⟨rfl, rfl, rfl⟩
def SubOut (w : World) (P : Bool → Int → List Nat → Prop) (e : Ending) (w' : World) : Prop :=
  ∃ ok o l v', P ok o l ∧ e = .returned (.tuple #[.agg #[.int .i64 o, v'], .bool ok]) ∧ Mine w w' 25 v' (uvals l)
theorem has_all {o1 : Int} {l1 : List Nat} {o2 : Int} {l2 : List Nat} (h : hasS o1 l1 o2 l2) (i : Int) : atN o2 l2 i ≤ atN o1 l1 i := by
  by_cases hi : o2 ≤ i ∧ i < o2 + (l2.length : Int)
  · rw [atN_in hi.1 hi.2]
    have := h (i - o2).toNat (by omega)
    rwa [show o2 + (((i - o2).toNat : Nat) : Int) = i by omega] at this
  · rw [atN_out (by omega)]; omega
/-- What is left while it is reckoned. -/
def lsP (o1 : Int) (l1 : List Nat) (o2 : Int) (l2 : List Nat) (m : Nat) : List Nat := rowF o1 l1.length fun i => if i < o1 + (m : Int) then atN o1 l1 i - atN o2 l2 i else atN o1 l1 i
theorem lsP_0 (o1 : Int) (l1 : List Nat) (o2 : Int) (l2 : List Nat) : lsP o1 l1 o2 l2 0 = l1 := by
  have : lsP o1 l1 o2 l2 0 = rowF o1 l1.length (atN o1 l1) := rowF_congr _ _ _ _ fun j _ => by rw [if_neg (by omega)]
  rw [this, row_atN]
theorem lsP_all (o1 : Int) (l1 : List Nat) (o2 : Int) (l2 : List Nat) : lsP o1 l1 o2 l2 l1.length = lsL o1 l1 o2 l2 := rowF_congr _ _ _ _ fun j hj => by rw [if_pos (by omega)]
theorem lsP_get (o1 : Int) (l1 : List Nat) (o2 : Int) (l2 : List Nat) (m : Nat) (h : m < l1.length) : (lsP o1 l1 o2 l2 m).getD m 0 = atN o1 l1 (o1 + (m : Int)) := by
  unfold lsP; rw [rowF_get _ _ _ _ h, if_neg (by omega)]
theorem lsP_succ (o1 : Int) (l1 : List Nat) (o2 : Int) (l2 : List Nat) (m : Nat) (h : m < l1.length) : lsP o1 l1 o2 l2 (m + 1) = (lsP o1 l1 o2 l2 m).set m (atN o1 l1 (o1 + (m : Int)) - atN o2 l2 (o1 + (m : Int))) := by
  unfold lsP
  rw [rowF_set o1 l1.length (fun i => if i < o1 + (m : Int) then atN o1 l1 i - atN o2 l2 i else atN o1 l1 i) (fun i => if i < o1 + ((m + 1 : Nat) : Int) then atN o1 l1 i - atN o2 l2 i else atN o1 l1 i) m h ?_]
  · rw [if_pos (by omega)]
  · intro i hi
    by_cases h1 : i < o1 + (m : Int)
    · rw [if_pos h1, if_pos (by omega)]
    · rw [if_neg h1, if_neg (by omega)]
set_option maxHeartbeats 4000000 in
set_option maxRecDepth 100000 in
theorem foldSub1_any (o1 : Int) (l1 : List Nat) (o2 : Int) (l2 : List Nat) (v1 v2 : Value) (w : World) (m1 : SlAt w v1 (uvals l1)) (m2 : SlAt w v2 (uvals l2)) (h1 : sideE o1 l1 = 0) (h2 : sideE o2 l2 = 0) (hb1 : ∀ x ∈ l1, x < 18446744073709551616) (hb2 : ∀ x ∈ l2, x < 18446744073709551616) :
    Calls Try.prog 111 #[.agg #[.int .i64 o1, v1], .agg #[.int .i64 o2, v2]] w (SubOut w (SubRes o1 l1 o2 l2)) := by
  obtain ⟨a1, _, _⟩ := sideE_zero h1
  obtain ⟨b1, _, _⟩ := sideE_zero h2
  obtain ⟨r1, r2⟩ := (side_range h1).1
  obtain ⟨r3, r4⟩ := (side_range h2).1
  obtain ⟨ao, c, hval1, _, _⟩ := m1.val
  obtain ⟨bo, d, hval2, _, _⟩ := m2.val
  rw [uvals_length] at hval1 hval2
  subst hval1 hval2
  have hsb := SB3.mk0 w o1 o2 (.slice ao l1.length c) (.slice bo l2.length d)
  obtain ⟨w0, hw0⟩ : ∃ w0, w0 = (((w.alloc (.cells #[.int .i64 o1, .slice ao l1.length c] 28)).alloc (.cells #[.int .i64 o2, .slice bo l2.length d] 28)).alloc (.cells #[.int .i64 0, .slice none 0 0] 28)) := ⟨_, rfl⟩
  rw [← hw0] at hsb
  have k0 : Kept (fun _ => False) w w0 := by rw [hw0]; exact (((Kept.refl _ w).alloc _).alloc _).alloc _
  have HW0 := Lib.hid hw0
  have HSB := Lib.hid hsb
  have HK0 := Lib.hid k0
  have HV1 := Lib.hid m1
  have HV2 := Lib.hid m2
  have HA1 := Lib.hid fun w' (k : SlAt w' (.slice ao l1.length c) (uvals l1)) i (hi : I64 i) => histAt_any o1 i l1 _ w' k ⟨by omega, by omega⟩ hi (by omega)
  have HA2 := Lib.hid fun w' (k : SlAt w' (.slice bo l2.length d) (uvals l2)) i (hi : I64 i) => histAt_any o2 i l2 _ w' k ⟨by omega, by omega⟩ hi (by omega)
  have HCL := Lib.hid fun w' (k : Kept (fun _ => False) w w') => sclone_any _ _ w' (m1.kept k (fun _ _ x => x)) (uvals_one _) (by rw [uvals_length]; omega)
  have HB1 := Lib.hid (And.intro hb1 hb2)
  have HL := Lib.hid (And.intro a1 b1)
  have HR := Lib.hid (And.intro (And.intro r1 r2) (And.intro r3 r4))
  clear m1 m2 hw0 hsb k0 hb1 hb2 h1 h2 a1 b1
  go_enter Try.func111, Try.ntmps111
  go_upto_region 1 with fail
  rw [← HW0.out]
  obtain ⟨⟨y0, y1⟩, _⟩ := HSB.out.b.c
  go_wp2
  clear y0 y1
  go_loopg [6, 7, 13, 14, 15, 16, 17, 18, 19, 20, 21, 22, 23, 24, 25, 26, 27] l2.length (fun g' s6 s7 s13 s14 s15 s16 s17 s18 s19 s20 s21 s22 s23 s24 s25 s26 s27 wr => ∃ i : Nat, i ≤ l2.length ∧ g' = l2.length - i ∧ s13 = .int .i64 i ∧ (∀ j, j < i → l2.getD j 0 ≤ atN o1 l1 (o2 + (j : Int))) ∧ SB3 w wr o1 o2 0 (.slice ao l1.length c) (.slice bo l2.length d) (.slice none 0 0) ∧ Kept (fun _ => False) w wr)
  case atStart => exact ⟨0, Nat.zero_le _, rfl, rfl, fun j h => by omega, HSB.out, HK0.out⟩
  case round =>
    obtain ⟨i, hil, rfl, rfl, hP, hsb, hkw⟩ := hrel
    have HPP := Lib.hid hP
    have HSR := Lib.hid hsb
    have HKW := Lib.hid hkw
    obtain ⟨⟨x0, x1⟩, _⟩ := hsb.a.c
    obtain ⟨⟨y0, y1⟩, _⟩ := hsb.b.c
    by_cases hd : i < l2.length
    · have hdi : (i : Int) < (l2.length : Int) := by omega
      have i0 : (0 : Int) ≤ (i : Int) := by omega
      have HD := Lib.hid hd
      obtain ⟨g, off, rfl, c0⟩ := (HV2.out.kept hkw (fun _ _ x => x)).elem (uvals_get hd)
      obtain ⟨y, hy⟩ : ∃ y, y = l2.getD i 0 := ⟨_, rfl⟩
      rw [← hy] at c0
      have t1 : IntKind.i64.wrap (o2 + (i : Int)) = o2 + (i : Int) := IntWalk.i64_in _ ⟨by omega, by have := HL.out; omega⟩
      have hca := HA1.out wr (HV1.out.kept hkw (fun _ _ x => x)) (o2 + (i : Int)) ⟨by omega, by have := HL.out; omega⟩
      obtain ⟨X, hX⟩ : ∃ X, X = atN o1 l1 (o2 + (i : Int)) := ⟨_, rfl⟩
      rw [← hX] at hca
      have HCA := Lib.hid hca
      by_cases hle : y ≤ X
      · have q : ¬ (X : Int) < (y : Int) := by omega
        have HP2 := Lib.hid (show ∀ j, j < i + 1 → l2.getD j 0 ≤ atN o1 l1 (o2 + (j : Int)) from fun j hj => by
          by_cases e : j = i
          · rw [e, ← hy, ← hX]; exact hle
          · exact HPP.out j (by omega))
        clear hca hX hy hle hP hsb hkw hd
        go_wp2_with fail
        refine HCA.out.mono ?_
        rintro e w1 ⟨rfl, k1⟩
        have HS1 := Lib.hid (And.intro (HSR.out.on k1) (HKW.out.trans k1))
        clear k1
        go_wp2
        go_roundg (l2.length - (i + 1))
        case measure => have := HD.out; omega
        case rel => exact ⟨i + 1, HD.out, rfl, by go_num, HP2.out, HS1.out.1, HS1.out.2⟩
      · have q : (X : Int) < (y : Int) := by omega
        have HN := Lib.hid (show ¬ hasS o1 l1 o2 l2 from fun h => by have := h i hd; rw [← hy, ← hX] at this; exact hle this)
        clear hca hX hy hle hP hsb hkw hd
        go_wp2_with fail
        refine HCA.out.mono ?_
        rintro e w1 ⟨rfl, k1⟩
        have HS1 := Lib.hid (And.intro (HSR.out.on k1) (HKW.out.trans k1))
        obtain ⟨⟨z0, z1⟩, f0, f1⟩ := HS1.out.1.r.c
        clear k1
        go_wp2
        refine side2_end (o := 0) (v := .slice none 0 0) Try.results111 rfl rfl rfl (HS1.out.1.r.set 0 (.slice none 0 0)) ?_
        exact ⟨false, 0, [], _, .inr ⟨rfl, HN.out, rfl, rfl⟩, rfl, Mine.nil' _ (two_kept HS1.out.2 (by omega))⟩
    · obtain rfl : i = l2.length := by omega
      have HHAS : Hid (hasS o1 l1 o2 l2) := Lib.hid hP
      clear hd hP x0 x1 y0 y1
      go_upto_region 7 with fail
      have HD0 := Lib.hid (show SB3 w wr.drew o1 o2 0 (.slice ao l1.length c) (.slice bo l2.length d) (.slice none 0 0) ∧ Kept (fun _ => False) w wr.drew from ⟨hsb.on (Kept.refl _ _).drew, hkw.drew⟩)
      clear hsb hkw
      go_cut [8] (fun s8 wc => ∃ p a3 q3, s8 = .pointer (some ⟨p, 0, none⟩) ∧ SideBox wc p o1 (.slice a3 l1.length q3) ∧ w.heap.size + 1 + 1 < p ∧ Mine w wc 25 (.slice a3 l1.length q3) (uvals l1) ∧ SB3 w wc o1 o2 0 (.slice ao l1.length c) (.slice bo l2.length d) (.slice none 0 0))
      case first =>
        have HGE := Lib.hid (show w.heap.size + 1 + 1 < wr.heap.size from (Array.getElem?_eq_some_iff.1 HSR.out.r).1)
        refine AnyBut.start (S := fun w' => (w'.cell? ⟨w.heap.size, 0, none⟩ = some (.int .i64 o1) ∧ w'.cell? ⟨w.heap.size, 1, none⟩ = some (.slice ao l1.length c))) (k := 7) (by kernel_rfl) ?_
        refine AnyBut.take (i := 0) (v := ?v1) rfl (by kernel_rfl) (by kernel_rfl) (by kernel_rfl) (by kernel_rfl) (fun _ _ _ h => h) (HD0.out.1.a.c.1) (Or.inl ⟨by rfl, ?hy1⟩) ?r1
        case hy1 =>
          intro w hSw
          try dsimp only at hSw
          go_simp
          try with_reducible rfl
        try simp only [Act.put, List.setIfInBounds_toArray]
        refine AnyBut.take (i := 1) (v := ?v2) rfl (by kernel_rfl) (by kernel_rfl) (by kernel_rfl) (by kernel_rfl) (fun _ _ _ h => h) (HD0.out.1.a.c.1) (Or.inl ⟨by rfl, ?hy2⟩) ?r2
        case hy2 =>
          intro w hSw
          try dsimp only at hSw
          go_simp
          try with_reducible rfl
        try simp only [Act.put]
        refine AnyBut.take (i := 2) (v := ?v3) rfl (by kernel_rfl) (by kernel_rfl) (by kernel_rfl) (by kernel_rfl) (fun _ _ _ h => h) (HD0.out.1.a.c.1) (Or.inl ⟨by rfl, ?hy3⟩) ?r3
        case hy3 =>
          intro w hSw
          try dsimp only at hSw
          go_simp
          try with_reducible rfl
        try simp only [Act.put]
        refine AnyBut.take (i := 3) (v := ?v4) rfl (by kernel_rfl) (by kernel_rfl) (by kernel_rfl) (by kernel_rfl) (fun _ _ _ h => h) (HD0.out.1.a.c.1) (Or.inl ⟨by rfl, ?hy4⟩) ?r4
        case hy4 =>
          intro w hSw
          try dsimp only at hSw
          go_simp
          try with_reducible rfl
        try simp only [Act.put]
        refine AnyBut.two (i := 4) (j := 6) (by kernel_rfl) rfl rfl (fun K hK => ?_) (fun K hK => ?_)
        · go_simp
          go_wp2_with (go_at_call 73; refine (HCL.out _ HD0.out.2).mono ?_; rintro e w3 ⟨v3, rfl, hm3⟩; obtain ⟨a3, q3, rfl⟩ := hm3.slice; rw [uvals_length] at hm3 ⊢; have HM3 := Lib.hid hm3; have HD3 := Lib.hid (show SB3 w w3 o1 o2 0 (.slice ao l1.length c) (.slice bo l2.length d) (.slice none 0 0) ∧ Kept (fun _ => False) w w3 from ⟨HD0.out.1.on hm3.kept, HD0.out.2.trans hm3.kept⟩); clear hm3)
          refine hK.out _ _ (HD3.out.1.a.c.1) ?_
          clear hK K
          try simp only [Act.put, List.setIfInBounds_toArray, List.set_cons_zero, List.set_cons_succ]
          refine AnyBut.take (i := 5) (v := ?v5) rfl (by kernel_rfl) (by kernel_rfl) (by kernel_rfl) (by kernel_rfl) (fun _ _ _ h => h) (HD3.out.1.a.c.1) (Or.inl ⟨by rfl, ?hy5⟩) ?r5
          case hy5 =>
            intro w hSw
            try dsimp only at hSw
            go_simp
            try with_reducible rfl
          try simp only [Act.put, List.setIfInBounds_toArray]
          refine AnyBut.one (i := 6) (by kernel_rfl) rfl (fun K hK => ?_)
          go_simp
          have HDA := Lib.hid (show SB3 w (w3.alloc (.cells #[.int .i64 0, .slice none 0 0] 28)) o1 o2 0 (.slice ao l1.length c) (.slice bo l2.length d) (.slice none 0 0) ∧ Kept (fun _ => False) w (w3.alloc (.cells #[.int .i64 0, .slice none 0 0] 28)) from ⟨HD3.out.1.on ((Kept.refl _ _).alloc _), HD3.out.2.alloc _⟩)
          refine hK.out _ _ (HDA.out.1.a.c.1) ?_
          clear hK K
          try simp only [Act.put, List.setIfInBounds_toArray, List.set_cons_zero, List.set_cons_succ]
          refine AnyBut.last (by kernel_rfl) rfl (by kernel_rfl) (fun K hK => ?_)
          go_simp
          refine hK.out _ _ ?_
          clear hK K
          try simp only [Act.put, List.setIfInBounds_toArray, List.set_cons_zero, List.set_cons_succ]
          go_wp2
          go_meet
          case rel =>
            have k3 := (Kept.refl (fun _ => False) w3).alloc (.cells #[.int .i64 o1, .slice a3 l1.length q3] 28)
            exact ⟨_, _, _, rfl, heap_alloc_new w3 _, by have h1 : wr.heap.size ≤ w3.heap.size := HM3.out.kept.size; have := HGE.out; omega, (HM3.out.down HD0.out.2).on k3, HD3.out.1.on k3⟩
        · go_simp
          have HDA := Lib.hid (show SB3 w (wr.drew.alloc (.cells #[.int .i64 0, .slice none 0 0] 28)) o1 o2 0 (.slice ao l1.length c) (.slice bo l2.length d) (.slice none 0 0) ∧ Kept (fun _ => False) w (wr.drew.alloc (.cells #[.int .i64 0, .slice none 0 0] 28)) from ⟨HD0.out.1.on ((Kept.refl _ _).alloc _), HD0.out.2.alloc _⟩)
          refine hK.out _ _ (HDA.out.1.a.c.1) ?_
          clear hK K
          try simp only [Act.put, List.setIfInBounds_toArray, List.set_cons_zero, List.set_cons_succ]
          refine AnyBut.one (i := 4) (by kernel_rfl) rfl (fun K hK => ?_)
          go_simp
          go_wp2_with (go_at_call 73; refine (HCL.out _ HDA.out.2).mono ?_; rintro e w3 ⟨v3, rfl, hm3⟩; obtain ⟨a3, q3, rfl⟩ := hm3.slice; rw [uvals_length] at hm3 ⊢; have HM3 := Lib.hid hm3; have HD3 := Lib.hid (show SB3 w w3 o1 o2 0 (.slice ao l1.length c) (.slice bo l2.length d) (.slice none 0 0) ∧ Kept (fun _ => False) w w3 from ⟨HDA.out.1.on hm3.kept, HDA.out.2.trans hm3.kept⟩); clear hm3)
          refine hK.out _ _ (HD3.out.1.a.c.1) ?_
          clear hK K
          try simp only [Act.put, List.setIfInBounds_toArray, List.set_cons_zero, List.set_cons_succ]
          refine AnyBut.take (i := 5) (v := ?v6) rfl (by kernel_rfl) (by kernel_rfl) (by kernel_rfl) (by kernel_rfl) (fun _ _ _ h => h) (HD3.out.1.a.c.1) (Or.inl ⟨by rfl, ?hy6⟩) ?r6
          case hy6 =>
            intro w hSw
            try dsimp only at hSw
            go_simp
            try with_reducible rfl
          try simp only [Act.put, List.setIfInBounds_toArray]
          refine AnyBut.last (by kernel_rfl) rfl (by kernel_rfl) (fun K hK => ?_)
          have hbx : SideBox w3 wr.heap.size 0 (.slice none 0 0) := HM3.out.kept.same (heap_alloc_new wr.drew (.cells #[.int .i64 0, .slice none 0 0] 28)) (fun x => x)
          have HBX := Lib.hid hbx
          obtain ⟨⟨h0, h1⟩, h2, h3⟩ := hbx.c
          clear hbx
          go_simp
          refine hK.out _ _ ?_
          clear hK K
          try simp only [Act.put, List.setIfInBounds_toArray, List.set_cons_zero, List.set_cons_succ]
          go_wp2
          go_meet
          case rel =>
            have hg := HGE.out
            have k3 := two_kept (x := .int .i64 o1) (y := .slice a3 l1.length q3) (g := wr.heap.size) (W := wr) ((((Kept.refl (fun _ => False) wr).drew).alloc _).trans HM3.out.kept) (Nat.le_refl _)
            exact ⟨_, _, _, rfl, HBX.out.set o1 _, by omega, ((HM3.out.down (HDA.out.2)).setBox HBX.out (by decide) (by omega) _ _), HSR.out.on k3⟩
      case rest =>
        obtain ⟨p, a3, q3, rfl, hp, hplt, hm, hs3⟩ := hcut
        have HPX := Lib.hid hp
        have HPL := Lib.hid hplt
        have HM := Lib.hid hm
        have HS3 := Lib.hid hs3
        obtain ⟨⟨p0, p1⟩, _⟩ := hp.c
        clear hp hplt hm hs3
        go_wp2
        clear p0 p1
        go_loopg [9, 37, 38, 39, 40, 41, 42, 43, 44, 45, 46, 47, 48, 49, 50, 51, 52, 53] l1.length (fun g' s9 s37 s38 s39 s40 s41 s42 s43 s44 s45 s46 s47 s48 s49 s50 s51 s52 s53 wx => ∃ m : Nat, m ≤ l1.length ∧ g' = l1.length - m ∧ s37 = .int .i64 m ∧ Mine w wx 25 (.slice a3 l1.length q3) (uvals (lsP o1 l1 o2 l2 m)) ∧ Kept (fun k => (Value.slice a3 l1.length q3).ownBlock = some k) wc wx)
        case atStart => exact ⟨0, Nat.zero_le _, rfl, rfl, by rw [lsP_0]; exact HM.out, Kept.refl _ _⟩
        case round =>
          obtain ⟨m, hml, rfl, rfl, hm, hk⟩ := hrel
          have HMM := Lib.hid hm
          have HKK := Lib.hid hk
          have HPR := Lib.hid (HPX.out.same hk (own_box HM.out.own HPX.out (by decide)))
          have HSA := Lib.hid (HS3.out.a.same hk (own_box HM.out.own HS3.out.a (by decide)))
          have HSBB := Lib.hid (HS3.out.b.same hk (own_box HM.out.own HS3.out.b (by decide)))
          have HSR3 := Lib.hid (HS3.out.r.same hk (own_box HM.out.own HS3.out.r (by decide)))
          by_cases hd : m < l1.length
          · have hdi : (m : Int) < (l1.length : Int) := by omega
            have m0 : (0 : Int) ≤ (m : Int) := by omega
            have HD := Lib.hid hd
            rcases hm.own.2 with ⟨e, _⟩ | ⟨G, cap, cur, e, hGW, _⟩
            · injection e with e1 e2 e3; omega
            · injection e with e1 e2 e3
              subst e1 e3
              clear e2
              have HGW := Lib.hid hGW
              have hmW : wr.ownsRow w.heap.size 25 1 (.slice (some ⟨G, 0, none⟩) l1.length q3) l1.length (uvals (lsP o1 l1 o2 l2 m)) := by have := hm.own; rwa [uvals_length, show (lsP o1 l1 o2 l2 m).length = l1.length by unfold lsP; simp] at this
              have hcd := hmW.cellAt m (by omega)
              rw [uvals_get (by unfold lsP; simpa using hd), lsP_get _ _ _ _ _ hd] at hcd
              have hst := lsP_succ o1 l1 o2 l2 m hd
              have hall := has_all HHAS.out (o1 + (m : Int))
              have hxb := atN_at o1 l1 m hd
              have hxl := getD_u64 HB1.out.1 m
              rw [← hxb] at hxl
              have t1 : IntKind.i64.wrap (o1 + (m : Int)) = o1 + (m : Int) := IntWalk.i64_in _ ⟨by omega, by have := HL.out; omega⟩
              have hca := fun w' k => HA2.out w' k (o1 + (m : Int)) ⟨by omega, by have := HL.out; omega⟩
              obtain ⟨X, hX⟩ : ∃ X, X = atN o1 l1 (o1 + (m : Int)) := ⟨_, rfl⟩
              obtain ⟨Z, hZ⟩ : ∃ X, X = atN o2 l2 (o1 + (m : Int)) := ⟨_, rfl⟩
              rw [← hX] at hcd hst hall hxl
              rw [← hZ] at hst hall hca
              obtain ⟨Y, hY⟩ : ∃ Y, Y = X - Z := ⟨_, rfl⟩
              rw [← hY] at hst
              have HA := Lib.hid hca
              have u1 : IntKind.u64.wrap ((X : Int) - (Z : Int)) = (Y : Int) := by rw [IntKind.wrap_u64]; omega
              have u2 : (X : Int) - (Z : Int) = (Y : Int) := by omega
              have u3 : IntKind.u64.wrap (Y : Int) = (Y : Int) := by rw [IntKind.wrap_u64]; omega
              have HST := Lib.hid (show uvals (lsP o1 l1 o2 l2 (m + 1)) = (uvals (lsP o1 l1 o2 l2 m)).set m (.int .u64 (Y : Int)) by rw [uvals_set, hst])
              have HMD := Lib.hid (show Mine w wr.drew 25 (.slice (some ⟨G, 0, none⟩) l1.length q3) (uvals (lsP o1 l1 o2 l2 m)) from hm.on (Kept.refl _ _).drew)
              have HMW := Lib.hid hmW
              have hS : ∀ w', Kept (fun _ => False) wr.drew w' → (w'.cell? ⟨p, 1, none⟩ = some (.slice (some ⟨G, 0, none⟩) l1.length q3) ∧ w'.cell? ⟨G, m, none⟩ = some (.int .u64 (X : Int))) ∧ w'.cell? ⟨w.heap.size, 0, none⟩ = some (.int .i64 o1) ∧ w'.cell? ⟨w.heap.size + 1, 0, none⟩ = some (.int .i64 o2) ∧ w'.cell? ⟨w.heap.size + 1, 1, none⟩ = some (.slice bo l2.length d) := fun w' k => by
                have k2 := ((Kept.refl (fun _ => False) wr).drew).trans k
                exact ⟨⟨(HPR.out.same k2 (fun x => x)).c.1.2, k2.cell hcd (fun x => x)⟩, (HSA.out.same k2 (fun x => x)).c.1.1, (HSBB.out.same k2 (fun x => x)).c.1⟩
              have HSS := Lib.hid hS
              have HS0 := Lib.hid (hS _ (Kept.refl _ _))
              have HFZ : Hid (∀ w', Kept (fun _ => False) wr.drew w' → w'.frozen? ⟨G, m, none⟩ = false) := Lib.hid fun w' k => by
                obtain ⟨cur, hc⟩ := ownsRow_block (HMD.out.on k).own (k := G) rfl
                simp [World.frozen?, hc]
              clear hca hS hst hall hxb hxl hX hZ hY hcd hmW hGW hd hm hk
              go_wp2
              refine AnyBut.start (S := fun w' => (w'.cell? ⟨p, 1, none⟩ = some (.slice (some ⟨G, 0, none⟩) l1.length q3) ∧ w'.cell? ⟨G, m, none⟩ = some (.int .u64 (X : Int))) ∧ w'.cell? ⟨w.heap.size, 0, none⟩ = some (.int .i64 o1) ∧ w'.cell? ⟨w.heap.size + 1, 0, none⟩ = some (.int .i64 o2) ∧ w'.cell? ⟨w.heap.size + 1, 1, none⟩ = some (.slice bo l2.length d)) (k := 13) (by kernel_rfl) ?_
              refine AnyBut.take (i := 0) (v := ?v7) rfl (by kernel_rfl) (by kernel_rfl) (by kernel_rfl) (by kernel_rfl) (fun _ _ _ h => h) (HS0.out) (Or.inl ⟨by rfl, ?hy7⟩) ?r7
              case hy7 =>
                intro w hSw
                try dsimp only at hSw
                go_simp
                try with_reducible rfl
              try simp only [Act.put, List.setIfInBounds_toArray]
              refine AnyBut.take (i := 1) (v := ?v8) rfl (by kernel_rfl) (by kernel_rfl) (by kernel_rfl) (by kernel_rfl) (fun _ _ _ h => h) (HS0.out) (Or.inl ⟨by rfl, ?hy8⟩) ?r8
              case hy8 =>
                intro w hSw
                try dsimp only at hSw
                go_simp
                try with_reducible rfl
              try simp only [Act.put]
              refine AnyBut.take (i := 2) (v := ?v9) rfl (by kernel_rfl) (by kernel_rfl) (by kernel_rfl) (by kernel_rfl) (fun _ _ _ h => h) (HS0.out) (Or.inl ⟨by rfl, ?hy9⟩) ?r9
              case hy9 =>
                intro w hSw
                try dsimp only at hSw
                go_simp
                try with_reducible rfl
              try simp only [Act.put]
              refine AnyBut.take (i := 3) (v := ?v10) rfl (by kernel_rfl) (by kernel_rfl) (by kernel_rfl) (by kernel_rfl) (fun _ _ _ h => h) (HS0.out) (Or.inl ⟨by rfl, ?hy10⟩) ?r10
              case hy10 =>
                intro w hSw
                try dsimp only at hSw
                go_simp
                try with_reducible rfl
              try simp only [Act.put]
              refine AnyBut.take (i := 4) (v := ?v11) rfl (by kernel_rfl) (by kernel_rfl) (by kernel_rfl) (by kernel_rfl) (fun _ _ _ h => h) (HS0.out) (Or.inl ⟨by rfl, ?hy11⟩) ?r11
              case hy11 =>
                intro w hSw
                try dsimp only at hSw
                go_simp
                try with_reducible rfl
              try simp only [Act.put]
              refine AnyBut.take (i := 5) (v := ?v12) rfl (by kernel_rfl) (by kernel_rfl) (by kernel_rfl) (by kernel_rfl) (fun _ _ _ h => h) (HS0.out) (Or.inl ⟨by rfl, ?hy12⟩) ?r12
              case hy12 =>
                intro w hSw
                try dsimp only at hSw
                go_simp
                try with_reducible rfl
              try simp only [Act.put]
              refine AnyBut.take (i := 6) (v := ?v13) rfl (by kernel_rfl) (by kernel_rfl) (by kernel_rfl) (by kernel_rfl) (fun _ _ _ h => h) (HS0.out) (Or.inl ⟨by rfl, ?hy13⟩) ?r13
              case hy13 =>
                intro w hSw
                try dsimp only at hSw
                go_simp
                try with_reducible rfl
              try simp only [Act.put]
              refine AnyBut.take (i := 7) (v := ?v14) rfl (by kernel_rfl) (by kernel_rfl) (by kernel_rfl) (by kernel_rfl) (fun _ _ _ h => h) (HS0.out) (Or.inl ⟨by rfl, ?hy14⟩) ?r14
              case hy14 =>
                intro w hSw
                try dsimp only at hSw
                go_simp
                try with_reducible rfl
              try simp only [Act.put]
              refine AnyBut.take (i := 8) (v := ?v15) rfl (by kernel_rfl) (by kernel_rfl) (by kernel_rfl) (by kernel_rfl) (fun _ _ _ h => h) (HS0.out) (Or.inl ⟨by rfl, ?hy15⟩) ?r15
              case hy15 =>
                intro w hSw
                try dsimp only at hSw
                go_simp
                try with_reducible rfl
              try simp only [Act.put]
              refine AnyBut.take (i := 9) (v := ?v16) rfl (by kernel_rfl) (by kernel_rfl) (by kernel_rfl) (by kernel_rfl) (fun _ _ _ h => h) (HS0.out) (Or.inl ⟨by rfl, ?hy16⟩) ?r16
              case hy16 =>
                intro w hSw
                try dsimp only at hSw
                go_simp
                try with_reducible rfl
              try simp only [Act.put]
              refine AnyBut.one (i := 10) (by kernel_rfl) rfl (fun K hK => ?_)
              go_simp
              go_wp2_with fail
              refine (HA.out _ (HV2.out.kept HMD.out.kept (fun _ _ x => x))).mono ?_
              rintro e w4 ⟨rfl, k4⟩
              have HK4 := Lib.hid k4
              have HS4 := Lib.hid (HSS.out _ k4)
              have hc4 := HS4.out.1.2
              have hf4 := HFZ.out _ k4
              clear k4
              go_wp2
              refine hK.out _ _ (HS4.out) ?_
              clear hK K
              try simp only [Act.put, List.setIfInBounds_toArray, List.set_cons_zero, List.set_cons_succ]
              refine AnyBut.take (i := 11) (v := ?v17) rfl (by kernel_rfl) (by kernel_rfl) (by kernel_rfl) (by kernel_rfl) (fun _ _ _ h => h) (HS4.out) (Or.inl ⟨by rfl, ?hy17⟩) ?r17
              case hy17 =>
                intro w hSw
                try dsimp only at hSw
                go_simp
                try with_reducible rfl
              try simp only [Act.put, List.setIfInBounds_toArray]
              refine AnyBut.take (i := 12) (v := ?v18) rfl (by kernel_rfl) (by kernel_rfl) (by kernel_rfl) (by kernel_rfl) (fun _ _ _ h => h) (HS4.out) (Or.inl ⟨by rfl, ?hy18⟩) ?r18
              case hy18 =>
                intro w hSw
                try dsimp only at hSw
                go_simp
                try with_reducible rfl
              try simp only [Act.put]
              refine AnyBut.last (by kernel_rfl) rfl (by kernel_rfl) (fun K hK => ?_)
              go_simp
              refine hK.out _ _ ?_
              clear hK K
              try simp only [Act.put, List.setIfInBounds_toArray, List.set_cons_zero, List.set_cons_succ]
              go_wp2
              have HN : Mine w (w4.setCell ⟨G, m, none⟩ (.int .u64 (Y : Int))) 25 (.slice (some ⟨G, 0, none⟩) l1.length q3) (uvals (lsP o1 l1 o2 l2 (m + 1))) ∧ Kept (fun k => (Value.slice (some ⟨G, 0, none⟩) l1.length q3).ownBlock = some k) wc (w4.setCell ⟨G, m, none⟩ (.int .u64 (Y : Int))) := by
                have k4 := ((Kept.refl (fun _ => False) wr).drew).trans HK4.out
                refine ⟨?_, ?_⟩
                · rw [HST.out]
                  exact Mine.ofFresh (owns_set (k4.owns HMW.out (fun _ _ x => x)) m (.int .u64 (Y : Int))) ((HMM.out.kept.trans k4).newer ((Kept.refl (fun k => k = G) w4).setCell (p := ⟨G, m, none⟩) (fun _ => rfl) _) (fun i e => by rw [e]; exact HGW.out))
                · exact (HKK.out.trans (k4.mono (fun _ _ x => x.elim))).setCell (p := ⟨G, m, none⟩) (fun _ => rfl) _
              have HN := Lib.hid HN
              go_roundg (l1.length - (m + 1))
              case measure => have := HD.out; omega
              case rel => exact ⟨m + 1, HD.out, rfl, by go_num, HN.out.1, HN.out.2⟩
          · obtain rfl : m = l1.length := by omega
            have hcap : ∀ a n c, Value.slice a3 l1.length q3 = .slice a n c → n ≤ c := fun a n c e => by
              have := own_cap hm.own
              injection e with e1 e2 e3
              rw [uvals_length, show (lsP o1 l1 o2 l2 l1.length).length = l1.length by unfold lsP; simp] at this
              omega
            rw [lsP_all] at hm
            have hll : (lsL o1 l1 o2 l2).length = l1.length := by unfold lsL; simp
            have htr := histTrim_any o1 (lsL o1 l1 o2 l2) _ wr hm.at_ hcap ⟨by omega, by omega⟩ (by rw [hll]; have := HL.out; omega)
            have HT := Lib.hid htr
            have HMF := Lib.hid hm
            obtain ⟨⟨p0, p1⟩, _⟩ := HPR.out.c
            clear htr hll hcap hm hk hd
            go_wp2_with fail
            refine HT.out.mono ?_
            rintro e w5 ⟨o5, l5, v5, ht5, rfl, hm5⟩
            have HT5 := Lib.hid ht5
            have HM5 := Lib.hid hm5
            have hr5 := HSR3.out.same hm5.kept (fun x => x)
            have HR5 := Lib.hid hr5
            obtain ⟨⟨z0, z1⟩, f0, f1⟩ := hr5.c
            obtain ⟨a5, q5, rfl⟩ := hm5.slice
            clear ht5 hm5 hr5
            go_wp2
            refine side2_end (o := o5) (v := .slice a5 (uvals l5).length q5) Try.results111 rfl rfl rfl (HR5.out.set o5 (.slice a5 (uvals l5).length q5)) ?_
            exact ⟨true, o5, l5, _, .inl ⟨rfl, HHAS.out, HT5.out⟩, rfl, (HM5.out.down HMF.out.kept).setBox HR5.out (by decide) (by omega) _ _⟩
end Go.Proofs.Ytiiibhdohlpodaa
namespace Go.Proofs.Ytiiibhdohlpodaa
open Go.RowKit
attribute [local go_sem ↓] Go.wp_at_zero Go.wp_at_succ
end Go.Proofs.Ytiiibhdohlpodaa

