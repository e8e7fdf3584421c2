/- Texts put together: what the theorem stands on. -/
import Derived.Test.YtiiibhdohlpodaaZz7
import Derived.RegionTactic
import Derived.BigRegion

namespace Go.Proofs.Ytiiibhdohlpodaa
open Go.RowKit
/-- The least index of two sides; how many indices there are from it to the greatest. -/
def spF (o1 : Int) (l1 : List Nat) (o2 : Int) (l2 : List Nat) : Int := if l1.length = 0 then (if l2.length = 0 then 0 else o2) else if l2.length = 0 then o1 else min o1 o2
def spT (o1 : Int) (l1 : List Nat) (o2 : Int) (l2 : List Nat) : Int := if l1.length = 0 then (if l2.length = 0 then 0 else o2 + (l2.length : Int)) else if l2.length = 0 then o1 + (l1.length : Int) else max (o1 + (l1.length : Int)) (o2 + (l2.length : Int))
def spN (o1 : Int) (l1 : List Nat) (o2 : Int) (l2 : List Nat) : Nat := (spT o1 l1 o2 l2 - spF o1 l1 o2 l2).toNat
theorem sp_facts (o1 : Int) (l1 : List Nat) (o2 : Int) (l2 : List Nat) :
    (spN o1 l1 o2 l2 : Int) = spT o1 l1 o2 l2 - spF o1 l1 o2 l2 ∧ (l1.length ≠ 0 → spF o1 l1 o2 l2 ≤ o1 ∧ o1 + (l1.length : Int) ≤ spT o1 l1 o2 l2) ∧ (l2.length ≠ 0 → spF o1 l1 o2 l2 ≤ o2 ∧ o2 + (l2.length : Int) ≤ spT o1 l1 o2 l2) ∧
    (l1.length ≠ 0 ∨ l2.length ≠ 0 → (l1.length ≠ 0 ∧ spF o1 l1 o2 l2 = o1 ∨ l2.length ≠ 0 ∧ spF o1 l1 o2 l2 = o2) ∧ (l1.length ≠ 0 ∧ spT o1 l1 o2 l2 = o1 + (l1.length : Int) ∨ l2.length ≠ 0 ∧ spT o1 l1 o2 l2 = o2 + (l2.length : Int))) ∧ (l1.length = 0 → l2.length = 0 → spF o1 l1 o2 l2 = 0 ∧ spT o1 l1 o2 l2 = 0) := by
  have e : (spN o1 l1 o2 l2 : Int) = ((spT o1 l1 o2 l2 - spF o1 l1 o2 l2).toNat : Int) := rfl
  by_cases h1 : l1.length = 0
  · by_cases h2 : l2.length = 0
    · have a : spF o1 l1 o2 l2 = 0 := by simp [spF, h1, h2]
      have b : spT o1 l1 o2 l2 = 0 := by simp [spT, h1, h2]
      omega
    · have a : spF o1 l1 o2 l2 = o2 := by simp [spF, h1, h2]
      have b : spT o1 l1 o2 l2 = o2 + (l2.length : Int) := by simp [spT, h1, h2]
      omega
  · by_cases h2 : l2.length = 0
    · have a : spF o1 l1 o2 l2 = o1 := by simp [spF, h1, h2]
      have b : spT o1 l1 o2 l2 = o1 + (l1.length : Int) := by simp [spT, h1, h2]
      omega
    · have a : spF o1 l1 o2 l2 = min o1 o2 := by simp [spF, h1, h2]
      have b : spT o1 l1 o2 l2 = max (o1 + (l1.length : Int)) (o2 + (l2.length : Int)) := by simp [spT, h1, h2]
      omega
theorem sp_comm (o1 : Int) (l1 : List Nat) (o2 : Int) (l2 : List Nat) : spF o1 l1 o2 l2 = spF o2 l2 o1 l1 ∧ spN o1 l1 o2 l2 = spN o2 l2 o1 l1 := by
  have e : spF o1 l1 o2 l2 = spF o2 l2 o1 l1 ∧ spT o1 l1 o2 l2 = spT o2 l2 o1 l1 := by
    by_cases h1 : l1.length = 0
    · by_cases h2 : l2.length = 0
      · simp [spF, spT, h1, h2]
      · simp [spF, spT, h1, h2]
    · by_cases h2 : l2.length = 0
      · simp [spF, spT, h1, h2]
      · simp only [spF, spT, h1, h2, if_false]; omega
  unfold spN
  rw [e.1, e.2]; exact ⟨rfl, rfl⟩
/-- A row over a span. -/
def rowF (f : Int) (n : Nat) (g : Int → Nat) : List Nat := (List.range n).map fun (j : Nat) => g (f + (j : Int))
@[simp] theorem rowF_length (f : Int) (n : Nat) (g : Int → Nat) : (rowF f n g).length = n := by simp [rowF]
theorem rowF_get (f : Int) (n : Nat) (g : Int → Nat) (j : Nat) (h : j < n) : (rowF f n g).getD j 0 = g (f + (j : Int)) := by
  simp [rowF, List.getD_eq_getElem?_getD, h]
theorem rowF_congr (f : Int) (n : Nat) (g h : Int → Nat) (e : ∀ j, j < n → g (f + (j : Int)) = h (f + (j : Int))) : rowF f n g = rowF f n h := by
  unfold rowF
  apply List.map_congr_left
  intro j hj
  exact e j (List.mem_range.1 hj)
theorem rowF_succ (f : Int) (n : Nat) (g : Int → Nat) : rowF f (n + 1) g = rowF f n g ++ [g (f + (n : Int))] := by
  unfold rowF; rw [List.range_succ, List.map_append]; rfl
theorem rowF_zero (f : Int) (n : Nat) (g : Int → Nat) (h : ∀ i, g i = 0) : rowF f n g = List.replicate n 0 := by
  unfold rowF
  rw [List.eq_replicate_iff]
  refine ⟨by simp, fun b hb => ?_⟩
  obtain ⟨j, _, rfl⟩ := List.mem_map.1 hb
  exact h _
theorem rowF_set (f : Int) (n : Nat) (g h : Int → Nat) (j : Nat) (hj : j < n) (e : ∀ i, i ≠ f + (j : Int) → h i = g i) : rowF f n h = (rowF f n g).set j (h (f + (j : Int))) := by
  apply list_ext0
  · simp
  · intro i hi
    rw [rowF_length] at hi
    rw [rowF_get _ _ _ _ hi, List.getD_eq_getElem?_getD, List.getElem?_set]
    by_cases hji : j = i
    · subst hji; rw [if_pos rfl, if_pos (by simpa using hj)]; rfl
    · rw [if_neg hji, ← List.getD_eq_getElem?_getD, rowF_get _ _ _ _ hi]
      exact e _ (by omega)
theorem atN_in {o i : Int} {l : List Nat} (h1 : o ≤ i) (h2 : i < o + (l.length : Int)) : atN o l i = l.getD (i - o).toNat 0 := by unfold atN; rw [if_pos ⟨h1, h2⟩]
theorem atN_out {o i : Int} {l : List Nat} (h : i < o ∨ o + (l.length : Int) ≤ i) : atN o l i = 0 := by unfold atN; rw [if_neg (by omega)]
theorem atN_at (o : Int) (l : List Nat) (j : Nat) (h : j < l.length) : atN o l (o + (j : Int)) = l.getD j 0 := by
  rw [atN_in (by omega) (by omega)]; congr 1; omega
theorem row_atN (o : Int) (l : List Nat) : rowF o l.length (atN o l) = l := by
  apply list_ext0
  · simp
  · intro j hj
    rw [rowF_length] at hj
    rw [rowF_get _ _ _ _ hj, atN_at _ _ _ hj]
/-- Two sides together. -/
def mgL (o1 : Int) (l1 : List Nat) (o2 : Int) (l2 : List Nat) : List Nat := rowF (spF o1 l1 o2 l2) (spN o1 l1 o2 l2) fun i => atN o1 l1 i + atN o2 l2 i
theorem mgL_nil1 (o1 o2 : Int) (l2 : List Nat) (h2 : l2.length = 0 → o2 = 0) : spF o1 [] o2 l2 = o2 ∧ mgL o1 [] o2 l2 = l2 := by
  have hf : spF o1 [] o2 l2 = o2 := by unfold spF; by_cases h : l2.length = 0 <;> simp [h, h2]
  have hn : spN o1 [] o2 l2 = l2.length := by
    unfold spN; rw [hf]; unfold spT
    by_cases h : l2.length = 0
    · simp [h, h2 h]
    · simp [h]; omega
  refine ⟨hf, ?_⟩
  unfold mgL
  rw [hf, hn]
  have := row_atN o2 l2
  rw [← this]
  simp only [rowF_length]
  apply rowF_congr
  intro j hj
  rw [atN_out (l := []) (by simp; omega), Nat.zero_add, row_atN]
theorem mgL_comm (o1 : Int) (l1 : List Nat) (o2 : Int) (l2 : List Nat) : mgL o1 l1 o2 l2 = mgL o2 l2 o1 l1 := by
  unfold mgL
  rw [(sp_comm o1 l1 o2 l2).1, (sp_comm o1 l1 o2 l2).2]
  exact rowF_congr _ _ _ _ fun j _ => Nat.add_comm _ _
theorem mgL_nil2 (o1 o2 : Int) (l1 : List Nat) (h1 : l1.length = 0 → o1 = 0) : spF o1 l1 o2 [] = o1 ∧ mgL o1 l1 o2 [] = l1 := by
  rw [mgL_comm, (sp_comm o1 l1 o2 []).1]
  exact mgL_nil1 o2 o1 l1 h1
theorem sum_rowF (f : Int) (n : Nat) (g h : Int → Nat) : (rowF f n fun i => g i + h i).sum = (rowF f n g).sum + (rowF f n h).sum := by
  induction n with
  | zero => simp [rowF]
  | succ n ih => rw [rowF_succ, rowF_succ, rowF_succ, List.sum_append, List.sum_append, List.sum_append, ih]; simp; omega
theorem sum_rowF_atN (o : Int) (l : List Nat) (f : Int) (n : Nat) (h : l.length ≠ 0 → f ≤ o ∧ o + (l.length : Int) ≤ f + (n : Int)) : (rowF f n (atN o l)).sum = l.sum := by
  by_cases h0 : l.length = 0
  · have : rowF f n (atN o l) = List.replicate n 0 := rowF_zero _ _ _ fun i => atN_out (by omega)
    rw [this, List.eq_nil_of_length_eq_zero h0]; simp
  · obtain ⟨h1, h2⟩ := h h0
    obtain ⟨a, ha⟩ : ∃ a : Nat, (a : Int) = o - f := ⟨(o - f).toNat, by omega⟩
    have key : ∀ m, m ≤ l.length → (rowF f (a + m) (atN o l)).sum = (l.take m).sum := by
      intro m
      induction m with
      | zero =>
        intro _
        have : rowF f (a + 0) (atN o l) = List.replicate a 0 := by
          rw [Nat.add_zero, List.eq_replicate_iff]
          refine ⟨by simp, fun b hb => ?_⟩
          unfold rowF at hb
          obtain ⟨j, hj, rfl⟩ := List.mem_map.1 hb
          have := List.mem_range.1 hj
          exact atN_out (by omega)
        rw [this]; simp
      | succ m ih =>
        intro hm
        rw [← Nat.add_assoc, rowF_succ, List.sum_append, ih (by omega), List.sum_singleton]
        have : f + ((a + m : Nat) : Int) = o + (m : Int) := by omega
        rw [this, atN_at _ _ _ (by omega), take_snoc (by omega), List.sum_append, List.sum_singleton]
    have tail : ∀ k, (rowF f (a + l.length + k) (atN o l)).sum = l.sum := by
      intro k
      induction k with
      | zero => have := key l.length (Nat.le_refl _); rwa [List.take_length] at this
      | succ k ih =>
        rw [← Nat.add_assoc, rowF_succ, List.sum_append, ih, List.sum_singleton, atN_out (by omega)]
        rfl
    have := tail (n - (a + l.length))
    rwa [show a + l.length + (n - (a + l.length)) = n by omega] at this
theorem mgL_sum (o1 : Int) (l1 : List Nat) (o2 : Int) (l2 : List Nat) : (mgL o1 l1 o2 l2).sum = l1.sum + l2.sum := by
  obtain ⟨f1, f2, f3, _⟩ := sp_facts o1 l1 o2 l2
  unfold mgL
  rw [sum_rowF, sum_rowF_atN o1 l1 _ _ (fun h => by have := f2 h; omega), sum_rowF_atN o2 l2 _ _ (fun h => by have := f3 h; omega)]
/-- Two right sides are right together, if they are not too wide. -/
theorem mgL_right (o1 : Int) (l1 : List Nat) (o2 : Int) (l2 : List Nat) (h1 : sideE o1 l1 = 0) (h2 : sideE o2 l2 = 0) (hn : spN o1 l1 o2 l2 ≤ 160) : sideE (spF o1 l1 o2 l2) (mgL o1 l1 o2 l2) = 0 := by
  obtain ⟨a1, a2, a3⟩ := sideE_zero h1
  obtain ⟨b1, b2, b3⟩ := sideE_zero h2
  obtain ⟨f1, f2, f3, f4, f5⟩ := sp_facts o1 l1 o2 l2
  have hl : (mgL o1 l1 o2 l2).length = spN o1 l1 o2 l2 := by unfold mgL; simp
  unfold sideE
  rw [hl, if_neg (by omega)]
  by_cases h0 : spN o1 l1 o2 l2 = 0
  · rw [if_pos h0]
    have z1 : l1.length = 0 := by by_cases z : l1.length = 0; exact z; have := f2 z; omega
    have z2 : l2.length = 0 := by by_cases z : l2.length = 0; exact z; have := f3 z; omega
    rw [if_pos (f5 z1 z2).1]
  · rw [if_neg h0]
    have hz : l1.length ≠ 0 ∨ l2.length ≠ 0 := by
      by_cases z1 : l1.length = 0
      · by_cases z2 : l2.length = 0
        · have := f5 z1 z2; omega
        · exact .inr z2
      · exact .inl z1
    obtain ⟨g1, g2⟩ := f4 hz
    have e0 : (mgL o1 l1 o2 l2).getD 0 0 ≠ 0 := by
      unfold mgL
      rw [rowF_get _ _ _ _ (by omega)]
      rcases g1 with ⟨z, e⟩ | ⟨z, e⟩
      · have := (a3 z).1
        have e2 : atN o1 l1 (spF o1 l1 o2 l2 + ((0 : Nat) : Int)) = l1.getD 0 0 := by rw [e]; exact atN_at _ _ 0 (by omega)
        omega
      · have := (b3 z).1
        have e2 : atN o2 l2 (spF o1 l1 o2 l2 + ((0 : Nat) : Int)) = l2.getD 0 0 := by rw [e]; exact atN_at _ _ 0 (by omega)
        omega
    have e1 : (mgL o1 l1 o2 l2).getD (spN o1 l1 o2 l2 - 1) 0 ≠ 0 := by
      unfold mgL
      rw [rowF_get _ _ _ _ (by omega)]
      have ei : spF o1 l1 o2 l2 + ((spN o1 l1 o2 l2 - 1 : Nat) : Int) = spT o1 l1 o2 l2 - 1 := by omega
      rw [ei]
      rcases g2 with ⟨z, e⟩ | ⟨z, e⟩
      · have := (a3 z).2.1
        have e2 : atN o1 l1 (spT o1 l1 o2 l2 - 1) = l1.getD (l1.length - 1) 0 := by
          rw [e, show o1 + (l1.length : Int) - 1 = o1 + ((l1.length - 1 : Nat) : Int) by omega]; exact atN_at _ _ _ (by omega)
        omega
      · have := (b3 z).2.1
        have e2 : atN o2 l2 (spT o1 l1 o2 l2 - 1) = l2.getD (l2.length - 1) 0 := by
          rw [e, show o2 + (l2.length : Int) - 1 = o2 + ((l2.length - 1 : Nat) : Int) by omega]; exact atN_at _ _ _ (by omega)
        omega
    rw [if_neg (by omega), if_neg ?_]
    rcases g1 with ⟨z, e⟩ | ⟨z, e⟩ <;> rcases g2 with ⟨y, e'⟩ | ⟨y, e'⟩
    · have := a3 z; omega
    · have := a3 z; have := b3 y; omega
    · have := b3 z; have := a3 y; omega
    · have := b3 z; omega
end Go.Proofs.Ytiiibhdohlpodaa
namespace Go.Proofs.Ytiiibhdohlpodaa
open Go.RowKit
attribute [local go_sem ↓] Go.wp_at_zero Go.wp_at_succ
set_option maxHeartbeats 1000000 in
theorem refAt9_any (o i : Int) (l : List Nat) (v : Value) (w : World) (hv : SlAt w v (uvals l)) (ho : -1000000000000 ≤ o ∧ o ≤ 1000000000000) (hi : -1000000000000 ≤ i ∧ i ≤ 1000000000000) (hl : l.length ≤ 1000000) :
    Calls Try.prog 108 #[.agg #[.int .i64 o, v], .int .i64 i] w fun e w' => e = .returned (.int .u64 ((atN o l i : Nat) : Int)) ∧ Kept (fun _ => False) w w' := by
  obtain ⟨h0, h1⟩ := ho
  obtain ⟨i0, i1⟩ := hi
  have hv1 := hv.kept ((Kept.refl (fun _ => False) w).alloc (.cells #[.int .i64 o, v] 28)) (fun _ _ x => x)
  obtain ⟨ao, c, hval, _, _⟩ := hv.val
  rw [uvals_length] at hval
  subst hval
  by_cases h : i < o
  · have e : atN o l i = 0 := atN_out (.inl h)
    rw [e]
    clear hv hv1 e
    go_enter Try.func108, Try.ntmps108
    go_wp2
    go_ret
    exact ⟨rfl, (Kept.refl _ _).alloc _⟩
  · by_cases h2 : o + (l.length : Int) ≤ i
    · have e : atN o l i = 0 := atN_out (.inr h2)
      rw [e]
      clear hv hv1 e
      go_enter Try.func108, Try.ntmps108
      go_wp2
      go_ret
      exact ⟨rfl, (Kept.refl _ _).alloc _⟩
    · have e : atN o l i = l.getD (i - o).toNat 0 := atN_in (by omega) (by omega)
      rw [e]
      obtain ⟨k, hk⟩ : ∃ k : Nat, (k : Int) = i - o := ⟨(i - o).toNat, by omega⟩
      have ek : (i - o).toNat = k := by omega
      rw [ek]
      have kl : k < l.length := by omega
      obtain ⟨g, off, e1, c0⟩ := hv1.elem (uvals_get kl)
      subst e1
      obtain ⟨x, hx⟩ : ∃ x, x = l.getD k 0 := ⟨_, rfl⟩
      rw [← hx] at c0 ⊢
      have t1 : i - o = (k : Int) := hk.symm
      have t2 : IntKind.i64.wrap (k : Int) = (k : Int) := IntWalk.i64_in _ ⟨by omega, by omega⟩
      have t3 : IntKind.i64.wrap (i - o) = (k : Int) := by rw [t1]; exact t2
      have k0 : (0 : Int) ≤ (k : Int) := by omega
      have k1 : (k : Int) < (l.length : Int) := by omega
      clear hv hv1 e ek hk hx
      go_enter Try.func108, Try.ntmps108
      go_wp2
      go_ret
      exact ⟨rfl, (Kept.refl _ _).alloc _⟩
end Go.Proofs.Ytiiibhdohlpodaa
namespace Go.Proofs.Ytiiibhdohlpodaa
open Go.RowKit
attribute [local go_sem ↓] Go.wp_at_zero Go.wp_at_succ
theorem atP_0 (o : Int) (l : List Nat) (i : Int) : atP o l 0 i = 0 := by unfold atP; rw [if_neg (by omega)]
theorem atP_at (o : Int) (l : List Nat) (m : Nat) : atP o l m (o + (m : Int)) = 0 := by unfold atP; rw [if_neg (by omega)]
/-- What a call answers that may make a side. -/
def SideTry (W w : World) (ok : Bool) (o : Int) (l : List Nat) (e : Ending) (w' : World) : Prop :=
  ∃ v', e = .returned (.tuple #[.agg #[.int .i64 o, v'], .bool ok]) ∧ Mine W w' 25 v' (uvals l) ∧ Kept (fun _ => False) w w'
def mgOk (o1 : Int) (l1 : List Nat) (o2 : Int) (l2 : List Nat) : Bool := decide (spN o1 l1 o2 l2 ≤ 160)
def mgO (o1 : Int) (l1 : List Nat) (o2 : Int) (l2 : List Nat) : Int := if spN o1 l1 o2 l2 ≤ 160 then spF o1 l1 o2 l2 else 0
def mgR (o1 : Int) (l1 : List Nat) (o2 : Int) (l2 : List Nat) : List Nat := if spN o1 l1 o2 l2 ≤ 160 then mgL o1 l1 o2 l2 else []
theorem side2_end {fn : Func} {p s : Tmp} {a : Act} {P : Ending → World → Prop} {w : World} {q : Nat} {o : Int} {v x : Value} (hres : fn.results = #[.cell p 28, .tmp s]) (hp : a.tmps.getD p undef = .pointer (some ⟨q, 0, none⟩)) (hx : a.tmps.getD s undef = x) (hd : a.defers = [])
    (hg : SideBox w q o v) (hP : P (.returned (.tuple #[.agg #[.int .i64 o, v], x])) w) : bodyPost Try.prog fn P .ret a w := by
  refine bodyPost_ret (v := .tuple #[.agg #[.int .i64 o, v], x]) ?_ hd hP
  have hp' : a.tmps[p]?.getD undef = .pointer (some ⟨q, 0, none⟩) := by simpa using hp
  have hx' : a.tmps[s]?.getD undef = x := by simpa using hx
  have hl := run_loadVar_row (P := Try.prog) w q 28 28 _ (0, 0) _ hg Try.underlying28 rfl side_info
  simp [results, hres, hp', hx', asAddr, hl]
/-- Three boxes: two sides that came in, and one to answer. -/
structure SB3 (w wr : World) (o1 o2 o3 : Int) (v1 v2 v3 : Value) : Prop where
  a : SideBox wr w.heap.size o1 v1
  b : SideBox wr (w.heap.size + 1) o2 v2
  r : SideBox wr (w.heap.size + 1 + 1) o3 v3
theorem SB3.on {w wr w' : World} {o1 o2 o3 : Int} {v1 v2 v3 : Value} (h : SB3 w wr o1 o2 o3 v1 v2 v3) (k : Kept (fun _ => False) wr w') : SB3 w w' o1 o2 o3 v1 v2 v3 := ⟨h.a.same k (fun x => x), h.b.same k (fun x => x), h.r.same k (fun x => x)⟩
theorem SB3.mk0 (w : World) (o1 o2 : Int) (v1 v2 : Value) : SB3 w (((w.alloc (.cells #[.int .i64 o1, v1] 28)).alloc (.cells #[.int .i64 o2, v2] 28)).alloc (.cells #[.int .i64 0, .slice none 0 0] 28)) o1 o2 0 v1 v2 (.slice none 0 0) := by
  have k := fun (w : World) o => (Kept.refl (fun _ => False) w).alloc o
  have nb : ∀ (w : World) o v, SideBox (w.alloc (.cells #[.int .i64 o, v] 28)) w.heap.size o v := fun w o v => heap_alloc_new w _
  refine ⟨?_, ?_, ?_⟩
  · exact ((nb w o1 v1).same (k _ _) (fun x => x)).same (k _ _) (fun x => x)
  · have := nb (w.alloc (.cells #[.int .i64 o1, v1] 28)) o2 v2
    rw [show (w.alloc (.cells #[.int .i64 o1, v1] 28)).heap.size = w.heap.size + 1 by simp] at this
    exact this.same (k _ _) (fun x => x)
  · have := nb ((w.alloc (.cells #[.int .i64 o1, v1] 28)).alloc (.cells #[.int .i64 o2, v2] 28)) 0 (.slice none 0 0)
    rw [show ((w.alloc (.cells #[.int .i64 o1, v1] 28)).alloc (.cells #[.int .i64 o2, v2] 28)).heap.size = w.heap.size + 1 + 1 by simp] at this
    exact this
theorem made0 {w w3 : World} (hk : Kept (fun _ => False) w w3) (W : Nat) (O : Int) (hW : W ≤ maxLen) :
    SideBox ((w3.alloc (.cells (Array.replicate W (.int .u64 0)) 25)).alloc (.cells #[.int .i64 O, .slice (some ⟨w3.heap.size, 0, none⟩) W W] 28)) (w3.heap.size + 1) O (.slice (some ⟨w3.heap.size, 0, none⟩) W W) ∧
    Mine w ((w3.alloc (.cells (Array.replicate W (.int .u64 0)) 25)).alloc (.cells #[.int .i64 O, .slice (some ⟨w3.heap.size, 0, none⟩) W W] 28)) 25 (.slice (some ⟨w3.heap.size, 0, none⟩) W W) (List.replicate W (.int .u64 0)) ∧
    Kept (fun _ => False) w3 ((w3.alloc (.cells (Array.replicate W (.int .u64 0)) 25)).alloc (.cells #[.int .i64 O, .slice (some ⟨w3.heap.size, 0, none⟩) W W] 28)) := by
  refine ⟨?_, ?_, ((Kept.refl _ w3).alloc _).alloc _⟩
  · have := heap_alloc_new (w3.alloc (.cells (Array.replicate W (.int .u64 0)) 25)) (.cells #[.int .i64 O, .slice (some ⟨w3.heap.size, 0, none⟩) W W] 28)
    have e : (w3.alloc (.cells (Array.replicate W (.int .u64 0)) 25)).heap.size = w3.heap.size + 1 := by simp
    rw [e] at this
    exact this
  · exact (mine_made hk W (.int .u64 0) 25 hW).on ((Kept.refl _ _).alloc _)
set_option maxHeartbeats 4000000 in
set_option maxRecDepth 100000 in
theorem foldMerge1_any (o1 : Int) (l1 : List Nat) (o2 : Int) (l2 : List Nat) (v1 v2 : Value) (W w : World) (m1 : Mine W w 25 v1 (uvals l1)) (m2 : Mine W w 25 v2 (uvals l2)) (h1 : sideE o1 l1 = 0) (h2 : sideE o2 l2 = 0) (hs : l1.sum + l2.sum < 18446744073709551616) :
    Calls Try.prog 45 #[.agg #[.int .i64 o1, v1], .agg #[.int .i64 o2, v2]] w (SideTry W w (mgOk o1 l1 o2 l2) (mgO o1 l1 o2 l2) (mgR o1 l1 o2 l2)) := by
  obtain ⟨a1, a2, a3⟩ := sideE_zero h1
  obtain ⟨b1, b2, b3⟩ := sideE_zero h2
  obtain ⟨ao, c, rfl⟩ := m1.slice
  obtain ⟨bo, d, rfl⟩ := m2.slice
  rw [uvals_length] at m1 m2 ⊢
  rw [uvals_length]
  have hsb := SB3.mk0 w o1 o2 (.slice ao l1.length c) (.slice bo l2.length d)
  obtain ⟨w0, hw0⟩ : ∃ w0, w0 = (((w.alloc (.cells #[.int .i64 o1, .slice ao l1.length c] 28)).alloc (.cells #[.int .i64 o2, .slice bo l2.length d] 28)).alloc (.cells #[.int .i64 0, .slice none 0 0] 28)) := ⟨_, rfl⟩
  rw [← hw0] at hsb
  have k0 : Kept (fun _ => False) w w0 := by rw [hw0]; exact (((Kept.refl _ w).alloc _).alloc _).alloc _
  have HW0 := Lib.hid hw0
  have HSB := Lib.hid hsb
  have HK0 := Lib.hid k0
  have HV1 := Lib.hid m1.at_
  have HV2 := Lib.hid m2.at_
  have HM1 := Lib.hid m1
  have HM2 := Lib.hid m2
  have HWW := Lib.hid m1.kept
  by_cases z1 : l1.length = 0
  · have hl : l1 = [] := List.eq_nil_of_length_eq_zero z1
    obtain ⟨e1, e2⟩ := mgL_nil1 o1 o2 l2 b2
    have en : spN o1 l1 o2 l2 ≤ 160 := by
      have : (mgL o1 [] o2 l2).length = l2.length := by rw [e2]
      unfold mgL at this; rw [rowF_length] at this; rw [hl, this]; exact b1
    have HR : Hid (mgOk o1 l1 o2 l2 = true ∧ mgO o1 l1 o2 l2 = o2 ∧ mgR o1 l1 o2 l2 = l2) := Lib.hid ⟨decide_eq_true en, by unfold mgO; rw [if_pos en, hl]; exact e1, by unfold mgR; rw [if_pos en, hl]; exact e2⟩
    have q : ((l1.length : Int) == 0) = true := beqT (by omega)
    clear m1 m2 hw0 hsb k0 z1 hl e1 e2 en a1 a2 a3 b1 b2 b3 h1 h2 hs
    go_enter Try.func45, Try.ntmps45
    go_upto_region 1 with fail
    rw [← HW0.out]
    obtain ⟨⟨x0, x1⟩, _⟩ := HSB.out.a.c
    obtain ⟨⟨y0, y1⟩, _⟩ := HSB.out.b.c
    obtain ⟨⟨r0, r1⟩, f0, f1⟩ := HSB.out.r.c
    go_wp2
    refine side2_end (o := o2) (v := .slice bo l2.length d) Try.results45 rfl rfl rfl (HSB.out.r.set o2 (.slice bo l2.length d)) ?_
    obtain ⟨r1, r2, r3⟩ := HR.out
    rw [r1, r2, r3]
    exact ⟨_, rfl, (HM2.out.on HK0.out).setBox HSB.out.r (by decide) (by have := HWW.out.size; omega) _ _, two_kept HK0.out (by omega)⟩
  · have q : ((l1.length : Int) == 0) = false := beqF (by omega)
    by_cases z2 : l2.length = 0
    · have hl : l2 = [] := List.eq_nil_of_length_eq_zero z2
      obtain ⟨e1, e2⟩ := mgL_nil2 o1 o2 l1 a2
      have en : spN o1 l1 o2 l2 ≤ 160 := by
        have : (mgL o1 l1 o2 []).length = l1.length := by rw [e2]
        unfold mgL at this; rw [rowF_length] at this; rw [hl, this]; exact a1
      have HR : Hid (mgOk o1 l1 o2 l2 = true ∧ mgO o1 l1 o2 l2 = o1 ∧ mgR o1 l1 o2 l2 = l1) := Lib.hid ⟨decide_eq_true en, by unfold mgO; rw [if_pos en, hl]; exact e1, by unfold mgR; rw [if_pos en, hl]; exact e2⟩
      have q2 : ((l2.length : Int) == 0) = true := beqT (by omega)
      clear m1 m2 hw0 hsb k0 z1 z2 hl e1 e2 en a1 a2 a3 b1 b2 b3 h1 h2 hs
      go_enter Try.func45, Try.ntmps45
      go_upto_region 1 with fail
      rw [← HW0.out]
      obtain ⟨⟨x0, x1⟩, _⟩ := HSB.out.a.c
      obtain ⟨⟨y0, y1⟩, _⟩ := HSB.out.b.c
      obtain ⟨⟨r0, r1⟩, f0, f1⟩ := HSB.out.r.c
      go_wp2
      refine side2_end (o := o1) (v := .slice ao l1.length c) Try.results45 rfl rfl rfl (HSB.out.r.set o1 (.slice ao l1.length c)) ?_
      obtain ⟨r1, r2, r3⟩ := HR.out
      rw [r1, r2, r3]
      exact ⟨_, rfl, (HM1.out.on HK0.out).setBox HSB.out.r (by decide) (by have := HWW.out.size; omega) _ _, two_kept HK0.out (by omega)⟩
    · have q2 : ((l2.length : Int) == 0) = false := beqF (by omega)
      obtain ⟨_, _, g1, g2⟩ := a3 z1
      obtain ⟨_, _, g3, g4⟩ := b3 z2
      obtain ⟨f1, f2, f3, f4, _⟩ := sp_facts o1 l1 o2 l2
      have f2 := f2 z1
      have f3 := f3 z2
      have hF : spF o1 l1 o2 l2 = min o1 o2 := by unfold spF; rw [if_neg z1, if_neg z2]
      have hT : spT o1 l1 o2 l2 = max (o1 + (l1.length : Int)) (o2 + (l2.length : Int)) := by unfold spT; rw [if_neg z1, if_neg z2]
      have hAll : rowF (spF o1 l1 o2 l2) (spN o1 l1 o2 l2) (fun i => atN o1 l1 i + atN o2 l2 i) = mgL o1 l1 o2 l2 := rfl
      have hok : mgOk o1 l1 o2 l2 = decide (spN o1 l1 o2 l2 ≤ 160) := rfl
      have ho : mgO o1 l1 o2 l2 = if spN o1 l1 o2 l2 ≤ 160 then spF o1 l1 o2 l2 else 0 := rfl
      have hr : mgR o1 l1 o2 l2 = if spN o1 l1 o2 l2 ≤ 160 then mgL o1 l1 o2 l2 else [] := rfl
      rw [hok, ho, hr, ← hAll]
      obtain ⟨F, hFF⟩ : ∃ F, F = spF o1 l1 o2 l2 := ⟨_, rfl⟩
      obtain ⟨T, hTT⟩ : ∃ T, T = spT o1 l1 o2 l2 := ⟨_, rfl⟩
      obtain ⟨N, hNN⟩ : ∃ N, N = spN o1 l1 o2 l2 := ⟨_, rfl⟩
      rw [← hFF] at f1 f2 f3 hF ⊢
      rw [← hTT] at f1 f2 f3 hT
      rw [← hNN] at f1 ⊢
      obtain ⟨OK, hOK⟩ : ∃ B, B = decide (N ≤ 160) := ⟨_, rfl⟩
      obtain ⟨OO, hOO⟩ : ∃ B, B = if N ≤ 160 then F else 0 := ⟨_, rfl⟩
      obtain ⟨RR, hRR⟩ : ∃ B, B = if N ≤ 160 then rowF F N (fun i => atN o1 l1 i + atN o2 l2 i) else [] := ⟨_, rfl⟩
      rw [← hOK, ← hOO, ← hRR]
      have HOK : Hid ((N ≤ 160 → OK = true ∧ OO = F ∧ RR = rowF F N (fun i => atN o1 l1 i + atN o2 l2 i)) ∧ (¬ N ≤ 160 → OK = false ∧ OO = 0 ∧ RR = [])) := Lib.hid ⟨fun h => ⟨by rw [hOK, decide_eq_true h], by rw [hOO, if_pos h], by rw [hRR, if_pos h]⟩, fun h => ⟨by rw [hOK, decide_eq_false h], by rw [hOO, if_neg h], by rw [hRR, if_neg h]⟩⟩
      clear hOK hOO hRR
      have s1 : IntKind.i64.wrap (o1 + (l1.length : Int)) = o1 + (l1.length : Int) := IntWalk.i64_in _ ⟨by omega, by omega⟩
      have s2 : IntKind.i64.wrap (o2 + (l2.length : Int)) = o2 + (l2.length : Int) := IntWalk.i64_in _ ⟨by omega, by omega⟩
      have HF := Lib.hid hF
      have HT := Lib.hid hT
      have HNT := Lib.hid f1
      have HIN1 := Lib.hid f2
      have HIN2 := Lib.hid f3
      have HSB1 : Hid (∀ i, 0 + atN o1 l1 i < 18446744073709551616) := Lib.hid fun i => by have := atN_le o1 i l1; omega
      have HSB2 : Hid (∀ i, atN o1 l1 i + atN o2 l2 i < 18446744073709551616) := Lib.hid fun i => by have := atN_le o1 i l1; have := atN_le o2 i l2; omega
      have HB : Hid ((-1073741824 ≤ F ∧ F ≤ 1073741824) ∧ N ≤ 3000000000) := Lib.hid (by omega)
      clear hF hT f1 f2 f3 f4 hFF hTT hNN hAll hok ho hr z1 z2 m1 m2 hw0 hsb k0 hs a1 a2 a3 b1 b2 b3 h1 h2
      go_enter Try.func45, Try.ntmps45
      go_upto_region 1 with fail
      rw [← HW0.out]
      obtain ⟨⟨x0, x1⟩, _⟩ := HSB.out.a.c
      obtain ⟨⟨y0, y1⟩, _⟩ := HSB.out.b.c
      go_upto_region 5 with fail
      go_cut [6] (fun s6 wc => s6 = .int .i64 F ∧ w0 = wc)
      case first =>
        go_wp2
        all_goals
          go_meet
          case rel => exact ⟨by rw [HF.out]; try (congr 1; omega), rfl⟩
      case rest =>
        obtain ⟨rfl, rfl⟩ := hcut
        obtain ⟨⟨F1, F2⟩, N1⟩ := HB.out
        go_upto_region 6 with fail
        go_cut [7] (fun s7 wc => s7 = .int .i64 N ∧ w0 = wc)
        case first =>
          go_wp2
          all_goals
            go_meet
            case rel => exact ⟨by have := HNT.out; have := HT.out; congr 1; omega, rfl⟩
        case rest =>
          obtain ⟨rfl, rfl⟩ := hcut
          by_cases hN : N ≤ 160
          · have HR := Lib.hid (HOK.out.1 hN)
            have qn : ¬ (160 : Int) < (N : Int) := by omega
            obtain ⟨iU, hiU, hzU0, hzU1, hzU2⟩ := info_parts Try.infoU64
            have hmk := fun w' => run_make1 (P := Try.prog) Try.underlying26 hiU hzU0 hzU1 rfl (by omega) N (by omega) w'
            have N0 : (0 : Int) ≤ (N : Int) := by omega
            obtain ⟨hb1, hb2, hb3⟩ := made0 HK0.out N F (by unfold maxLen; omega)
            clear hN
            go_upto_region 10 with fail
            obtain ⟨wc, hwc⟩ : ∃ wc, wc = (w0.alloc (.cells (Array.replicate N (.int .u64 0)) 25)).alloc (.cells #[.int .i64 F, .slice (some ⟨w0.heap.size, 0, none⟩) N N] 28) := ⟨_, rfl⟩
            rw [← hwc] at hb1 hb2 hb3 ⊢
            obtain ⟨G, hG⟩ : ∃ G, G = w0.heap.size := ⟨_, rfl⟩
            rw [← hG] at hb1 hb2 ⊢
            rw [← uvals_replicate, ← rowF_zero F N (fun _ => 0) (fun _ => rfl)] at hb2
            have HPB := Lib.hid hb1
            have HMC := Lib.hid hb2
            have HK3 := Lib.hid hb3
            have HGW : Hid (w.heap.size ≤ G) := Lib.hid (by rw [hG]; exact HK0.out.size)
            have HPG : Hid (¬ (G + 1 = G)) := Lib.hid (by omega)
            have HSBC := Lib.hid (HSB.out.on hb3)
            have HGS : Hid (G = w0.heap.size) := Lib.hid hG
            clear hwc hmk hb1 hb2 hb3 hG x0 x1 y0 y1
            obtain ⟨⟨x0, x1⟩, _⟩ := HSBC.out.a.c
            obtain ⟨⟨y0, y1⟩, _⟩ := HSBC.out.b.c
            have i0 : ∀ w, (Instr.index 91 (.agg #[.int .i64 o1, .slice ao l1.length c, .int .i64 o2, .slice bo l2.length d]) (.int .i64 0)).run Try.prog w = .ok (.agg #[.int .i64 o1, .slice ao l1.length c]) w := fun _ => by kernel_rfl
            have i1 : ∀ w, (Instr.index 91 (.agg #[.int .i64 o1, .slice ao l1.length c, .int .i64 o2, .slice bo l2.length d]) (.int .i64 1)).run Try.prog w = .ok (.agg #[.int .i64 o2, .slice bo l2.length d]) w := fun _ => by kernel_rfl
            go_wp2
            clear x0 x1 y0 y1
            go_loopg [10, 11, 12, 53, 54, 55, 56, 57, 58, 59, 60, 61, 62, 63, 64, 65, 66, 67, 68, 69, 70, 71, 72, 73, 74, 75, 76, 77, 78] 2 (fun g s10 s11 s12 s53 s54 s55 s56 s57 s58 s59 s60 s61 s62 s63 s64 s65 s66 s67 s68 s69 s70 s71 s72 s73 s74 s75 s76 s77 s78 wr => ∃ k : Nat, k ≤ 2 ∧ g = 2 - k ∧ s53 = .int .i64 k ∧ (k = 0 ∧ Mine w wr 25 (.slice (some ⟨G, 0, none⟩) N N) (uvals (rowF F N fun _ => 0)) ∨ k = 1 ∧ Mine w wr 25 (.slice (some ⟨G, 0, none⟩) N N) (uvals (rowF F N (atN o1 l1))) ∨ k = 2 ∧ Mine w wr 25 (.slice (some ⟨G, 0, none⟩) N N) (uvals (rowF F N fun i => atN o1 l1 i + atN o2 l2 i))) ∧ Kept (fun k => k = G) wc wr)
            case atStart => exact ⟨0, by omega, rfl, rfl, .inl ⟨rfl, HMC.out⟩, Kept.refl _ _⟩
            case round =>
              obtain ⟨k, hk2, rfl, rfl, hcase, hkw⟩ := hrel
              have HKW := Lib.hid hkw
              clear hkw
              rcases hcase with ⟨rfl, hmw⟩ | ⟨rfl, hmw⟩ | ⟨rfl, hmw⟩
              · -- the first side
                obtain ⟨h, hh⟩ : ∃ h : Int → Nat, h = fun _ => 0 := ⟨_, rfl⟩
                rw [← hh] at hmw
                have HBD : Hid (∀ i, h i + atN o1 l1 i < 18446744073709551616) := Lib.hid fun i => by rw [hh]; exact HSB1.out i
                have HH := Lib.hid hh
                have HMW := Lib.hid hmw
                clear hh hmw
                go_wp2
                obtain ⟨wa, hwa⟩ : ∃ wa, wa = wr.alloc (.cells #[.int .i64 o1, .slice ao l1.length c] 28) := ⟨_, rfl⟩
                have ka : Kept (fun _ => False) wr wa := by rw [hwa]; exact (Kept.refl _ _).alloc _
                have sx : SideBox wa wr.heap.size o1 (.slice ao l1.length c) := by rw [hwa]; exact heap_alloc_new wr _
                have HKA := Lib.hid (HKW.out.trans (ka.mono (fun _ _ x => x.elim)))
                have HSX := Lib.hid sx
                have HQG := Lib.hid (show wr.heap.size ≠ G from fun e => by have := (ownsRow_lt HMW.out.own (k := G) rfl).1; omega)
                have HMA := Lib.hid (HMW.out.on ka)
                rw [← hwa]
                clear hwa ka sx
                go_loopg [11, 12, 59, 60, 61, 62, 63, 64, 65, 66, 67, 68, 69, 70, 71, 72, 73, 74, 75, 76, 77] l1.length (fun g' s11 s12 s59 s60 s61 s62 s63 s64 s65 s66 s67 s68 s69 s70 s71 s72 s73 s74 s75 s76 s77 wx => ∃ m : Nat, m ≤ l1.length ∧ g' = l1.length - m ∧ s59 = .int .i64 m ∧ Mine w wx 25 (.slice (some ⟨G, 0, none⟩) N N) (uvals (rowF F N fun i => h i + atP o1 l1 m i)) ∧ Kept (fun k => k = G) wa wx)
                case atStart => exact ⟨0, Nat.zero_le _, rfl, rfl, by rw [rowF_congr F N _ h (fun j _ => by simp [atP_0])]; exact HMA.out, Kept.refl _ _⟩
                case round =>
                  obtain ⟨m, hml, rfl, rfl, hm, hk⟩ := hrel
                  have HMM := Lib.hid hm
                  have HKK := Lib.hid hk
                  obtain ⟨⟨p0, p1⟩, _⟩ := (HPB.out.same (HKA.out.trans hk) (fun e => HPG.out e)).c
                  obtain ⟨⟨s0, s1⟩, _⟩ := (HSX.out.same hk (fun e => HQG.out e)).c
                  clear hm hk
                  by_cases hd : m < l1.length
                  · have hdi : (m : Int) < (l1.length : Int) := by omega
                    have m0 : (0 : Int) ≤ (m : Int) := by omega
                    have HD := Lib.hid hd
                    obtain ⟨g2, off2, rfl, c0⟩ := (HV1.out.kept HMM.out.kept (fun _ _ x => x)).elem (uvals_get hd)
                    obtain ⟨y, hy⟩ : ∃ y, y = l1.getD m 0 := ⟨_, rfl⟩
                    rw [← hy] at c0
                    obtain ⟨s1', s2'⟩ := HIN1.out
                    obtain ⟨D, hD⟩ : ∃ D : Nat, (D : Int) = o1 - F + (m : Int) := ⟨(o1 - F + (m : Int)).toNat, by omega⟩
                    have hnt := HNT.out
                    have hDN : D < N := by omega
                    have hFD : F + (D : Int) = o1 + (m : Int) := by omega
                    obtain ⟨X, hX⟩ : ∃ X, X = h (F + (D : Int)) := ⟨_, rfl⟩
                    have hatn := atN_at o1 l1 m hd
                    have hbd := HBD.out (o1 + (m : Int))
                    rw [hatn, ← hFD, ← hX, ← hy] at hbd
                    obtain ⟨Y, hY⟩ : ∃ Y, Y = X + y := ⟨_, rfl⟩
                    have hgd : (rowF F N fun i => h i + atP o1 l1 m i).getD D 0 = X := by rw [rowF_get _ _ _ _ hDN, hFD, atP_at, ← hFD, ← hX, Nat.add_zero]
                    have hst : (rowF F N fun i => h i + atP o1 l1 (m + 1) i) = (rowF F N fun i => h i + atP o1 l1 m i).set D Y := by
                      rw [rowF_set F N (fun i => h i + atP o1 l1 m i) (fun i => h i + atP o1 l1 (m + 1) i) D hDN (fun i hi => by show h i + atP o1 l1 (m + 1) i = h i + atP o1 l1 m i; rw [atP_miss _ _ _ _ (by omega)])]
                      congr 1
                      show h (F + (D : Int)) + atP o1 l1 (m + 1) (F + (D : Int)) = Y
                      rw [hFD, atP_hit, ← hFD, ← hX, ← hy, hY]
                    have hmW : wr.ownsRow w.heap.size 25 1 (.slice (some ⟨G, 0, none⟩) N N) N (uvals (rowF F N fun i => h i + atP o1 l1 m i)) := by have := HMM.out.own; rwa [uvals_length, rowF_length] at this
                    have hcd := hmW.cellAt D (by omega)
                    rw [uvals_get (by rw [rowF_length]; exact hDN), hgd] at hcd
                    have hfd : wr.frozen? ⟨G, D, none⟩ = false := by
                      obtain ⟨cur, hc⟩ := ownsRow_block HMM.out.own (k := G) rfl
                      simp [World.frozen?, hc]
                    have t1 : IntKind.i64.wrap (o1 - F) = o1 - F := IntWalk.i64_in _ ⟨by omega, by omega⟩
                    have t2 : o1 - F + (m : Int) = (D : Int) := hD.symm
                    have t3 : IntKind.i64.wrap (D : Int) = (D : Int) := IntWalk.i64_in _ ⟨by omega, by omega⟩
                    have t4 : IntKind.u64.wrap ((X : Int) + (y : Int)) = (Y : Int) := by rw [IntKind.wrap_u64]; omega
                    have D0 : (0 : Int) ≤ (D : Int) := by omega
                    have DN : (D : Int) < (N : Int) := by omega
                    have HST := Lib.hid (show uvals (rowF F N fun i => h i + atP o1 l1 (m + 1) i) = (uvals (rowF F N fun i => h i + atP o1 l1 m i)).set D (.int .u64 (Y : Int)) by rw [uvals_set, hst])
                    have HMW2 := Lib.hid hmW
                    clear hst hgd hbd hatn hX hY hFD hD hDN hnt hy hd hmW
                    go_wp2
                    have HN : Mine w (wr.setCell ⟨G, D, none⟩ (.int .u64 (Y : Int))) 25 (.slice (some ⟨G, 0, none⟩) N N) (uvals (rowF F N fun i => h i + atP o1 l1 (m + 1) i)) ∧ Kept (fun k => k = G) wa (wr.setCell ⟨G, D, none⟩ (.int .u64 (Y : Int))) := by
                      refine ⟨?_, ?_⟩
                      · rw [HST.out]
                        exact Mine.ofFresh (owns_set HMW2.out D (.int .u64 (Y : Int))) (HMM.out.kept.newer ((Kept.refl (fun k => k = G) wr).setCell (p := ⟨G, D, none⟩) (fun _ => rfl) _) (fun i e => by rw [e]; exact HGW.out))
                      · exact HKK.out.setCell (fun _ => rfl) _
                    have HN := Lib.hid HN
                    go_roundg (l1.length - (m + 1))
                    case measure => have := HD.out; omega
                    case rel => exact ⟨m + 1, HD.out, rfl, by go_num, HN.out.1, HN.out.2⟩
                  · obtain rfl : m = l1.length := by omega
                    clear hd
                    go_wp2
                    go_roundg 1
                    case measure => omega
                    case rel => exact ⟨1, by omega, rfl, by rfl, .inr (.inl ⟨rfl, by rw [rowF_congr F N _ (fun i => h i + atP o1 l1 l1.length i) (fun j _ => by rw [HH.out]; simp [atP_all])]; exact HMM.out⟩), HKA.out.trans HKK.out⟩
              · -- the second side
                obtain ⟨h, hh⟩ : ∃ h : Int → Nat, h = atN o1 l1 := ⟨_, rfl⟩
                rw [← hh] at hmw
                have HBD : Hid (∀ i, h i + atN o2 l2 i < 18446744073709551616) := Lib.hid fun i => by rw [hh]; exact HSB2.out i
                have HH := Lib.hid hh
                have HMW := Lib.hid hmw
                clear hh hmw
                go_wp2
                obtain ⟨wa, hwa⟩ : ∃ wa, wa = wr.alloc (.cells #[.int .i64 o2, .slice bo l2.length d] 28) := ⟨_, rfl⟩
                have ka : Kept (fun _ => False) wr wa := by rw [hwa]; exact (Kept.refl _ _).alloc _
                have sx : SideBox wa wr.heap.size o2 (.slice bo l2.length d) := by rw [hwa]; exact heap_alloc_new wr _
                have HKA := Lib.hid (HKW.out.trans (ka.mono (fun _ _ x => x.elim)))
                have HSX := Lib.hid sx
                have HQG := Lib.hid (show wr.heap.size ≠ G from fun e => by have := (ownsRow_lt HMW.out.own (k := G) rfl).1; omega)
                have HMA := Lib.hid (HMW.out.on ka)
                rw [← hwa]
                clear hwa ka sx
                go_loopg [11, 12, 59, 60, 61, 62, 63, 64, 65, 66, 67, 68, 69, 70, 71, 72, 73, 74, 75, 76, 77] l2.length (fun g' s11 s12 s59 s60 s61 s62 s63 s64 s65 s66 s67 s68 s69 s70 s71 s72 s73 s74 s75 s76 s77 wx => ∃ m : Nat, m ≤ l2.length ∧ g' = l2.length - m ∧ s59 = .int .i64 m ∧ Mine w wx 25 (.slice (some ⟨G, 0, none⟩) N N) (uvals (rowF F N fun i => h i + atP o2 l2 m i)) ∧ Kept (fun k => k = G) wa wx)
                case atStart => exact ⟨0, Nat.zero_le _, rfl, rfl, by rw [rowF_congr F N _ h (fun j _ => by simp [atP_0])]; exact HMA.out, Kept.refl _ _⟩
                case round =>
                  obtain ⟨m, hml, rfl, rfl, hm, hk⟩ := hrel
                  have HMM := Lib.hid hm
                  have HKK := Lib.hid hk
                  obtain ⟨⟨p0, p1⟩, _⟩ := (HPB.out.same (HKA.out.trans hk) (fun e => HPG.out e)).c
                  obtain ⟨⟨s0, s1⟩, _⟩ := (HSX.out.same hk (fun e => HQG.out e)).c
                  clear hm hk
                  by_cases hd : m < l2.length
                  · have hdi : (m : Int) < (l2.length : Int) := by omega
                    have m0 : (0 : Int) ≤ (m : Int) := by omega
                    have HD := Lib.hid hd
                    obtain ⟨g2, off2, rfl, c0⟩ := (HV2.out.kept HMM.out.kept (fun _ _ x => x)).elem (uvals_get hd)
                    obtain ⟨y, hy⟩ : ∃ y, y = l2.getD m 0 := ⟨_, rfl⟩
                    rw [← hy] at c0
                    obtain ⟨s1', s2'⟩ := HIN2.out
                    obtain ⟨D, hD⟩ : ∃ D : Nat, (D : Int) = o2 - F + (m : Int) := ⟨(o2 - F + (m : Int)).toNat, by omega⟩
                    have hnt := HNT.out
                    have hDN : D < N := by omega
                    have hFD : F + (D : Int) = o2 + (m : Int) := by omega
                    obtain ⟨X, hX⟩ : ∃ X, X = h (F + (D : Int)) := ⟨_, rfl⟩
                    have hatn := atN_at o2 l2 m hd
                    have hbd := HBD.out (o2 + (m : Int))
                    rw [hatn, ← hFD, ← hX, ← hy] at hbd
                    obtain ⟨Y, hY⟩ : ∃ Y, Y = X + y := ⟨_, rfl⟩
                    have hgd : (rowF F N fun i => h i + atP o2 l2 m i).getD D 0 = X := by rw [rowF_get _ _ _ _ hDN, hFD, atP_at, ← hFD, ← hX, Nat.add_zero]
                    have hst : (rowF F N fun i => h i + atP o2 l2 (m + 1) i) = (rowF F N fun i => h i + atP o2 l2 m i).set D Y := by
                      rw [rowF_set F N (fun i => h i + atP o2 l2 m i) (fun i => h i + atP o2 l2 (m + 1) i) D hDN (fun i hi => by show h i + atP o2 l2 (m + 1) i = h i + atP o2 l2 m i; rw [atP_miss _ _ _ _ (by omega)])]
                      congr 1
                      show h (F + (D : Int)) + atP o2 l2 (m + 1) (F + (D : Int)) = Y
                      rw [hFD, atP_hit, ← hFD, ← hX, ← hy, hY]
                    have hmW : wr.ownsRow w.heap.size 25 1 (.slice (some ⟨G, 0, none⟩) N N) N (uvals (rowF F N fun i => h i + atP o2 l2 m i)) := by have := HMM.out.own; rwa [uvals_length, rowF_length] at this
                    have hcd := hmW.cellAt D (by omega)
                    rw [uvals_get (by rw [rowF_length]; exact hDN), hgd] at hcd
                    have hfd : wr.frozen? ⟨G, D, none⟩ = false := by
                      obtain ⟨cur, hc⟩ := ownsRow_block HMM.out.own (k := G) rfl
                      simp [World.frozen?, hc]
                    have t1 : IntKind.i64.wrap (o2 - F) = o2 - F := IntWalk.i64_in _ ⟨by omega, by omega⟩
                    have t2 : o2 - F + (m : Int) = (D : Int) := hD.symm
                    have t3 : IntKind.i64.wrap (D : Int) = (D : Int) := IntWalk.i64_in _ ⟨by omega, by omega⟩
                    have t4 : IntKind.u64.wrap ((X : Int) + (y : Int)) = (Y : Int) := by rw [IntKind.wrap_u64]; omega
                    have D0 : (0 : Int) ≤ (D : Int) := by omega
                    have DN : (D : Int) < (N : Int) := by omega
                    have HST := Lib.hid (show uvals (rowF F N fun i => h i + atP o2 l2 (m + 1) i) = (uvals (rowF F N fun i => h i + atP o2 l2 m i)).set D (.int .u64 (Y : Int)) by rw [uvals_set, hst])
                    have HMW2 := Lib.hid hmW
                    clear hst hgd hbd hatn hX hY hFD hD hDN hnt hy hd hmW
                    go_wp2
                    have HN : Mine w (wr.setCell ⟨G, D, none⟩ (.int .u64 (Y : Int))) 25 (.slice (some ⟨G, 0, none⟩) N N) (uvals (rowF F N fun i => h i + atP o2 l2 (m + 1) i)) ∧ Kept (fun k => k = G) wa (wr.setCell ⟨G, D, none⟩ (.int .u64 (Y : Int))) := by
                      refine ⟨?_, ?_⟩
                      · rw [HST.out]
                        exact Mine.ofFresh (owns_set HMW2.out D (.int .u64 (Y : Int))) (HMM.out.kept.newer ((Kept.refl (fun k => k = G) wr).setCell (p := ⟨G, D, none⟩) (fun _ => rfl) _) (fun i e => by rw [e]; exact HGW.out))
                      · exact HKK.out.setCell (fun _ => rfl) _
                    have HN := Lib.hid HN
                    go_roundg (l2.length - (m + 1))
                    case measure => have := HD.out; omega
                    case rel => exact ⟨m + 1, HD.out, rfl, by go_num, HN.out.1, HN.out.2⟩
                  · obtain rfl : m = l2.length := by omega
                    clear hd
                    go_wp2
                    go_roundg 0
                    case measure => omega
                    case rel => exact ⟨2, by omega, rfl, by rfl, .inr (.inr ⟨rfl, by rw [rowF_congr F N _ (fun i => h i + atP o2 l2 l2.length i) (fun j _ => by rw [HH.out]; simp [atP_all])]; exact HMM.out⟩), HKA.out.trans HKK.out⟩
              · -- both are done
                have HMW := Lib.hid hmw
                obtain ⟨⟨p0, p1⟩, _⟩ := (HPB.out.same HKW.out (fun e => HPG.out e)).c
                have hr3 := HSBC.out.r.same HKW.out (fun e => by have := HGS.out; have h0 := HSB.out.r; have := (Array.getElem?_eq_some_iff.1 h0).1; omega)
                have HR3 := Lib.hid hr3
                obtain ⟨⟨r0, r1⟩, f0, f1⟩ := hr3.c
                clear hmw hr3 hk2
                go_wp2
                refine side2_end (o := F) (v := .slice (some ⟨G, 0, none⟩) N N) Try.results45 rfl rfl rfl (HR3.out.set _ _) ?_
                obtain ⟨r1, r2, r3⟩ := HR.out
                rw [r1, r2, r3]
                exact ⟨_, rfl, (HMW.out.down HWW.out).setBox HR3.out (by decide) (by have := HWW.out.size; omega) _ _, two_kept HMW.out.kept (by omega)⟩
          · have HR := Lib.hid (HOK.out.2 hN)
            have qn : (160 : Int) < (N : Int) := by omega
            obtain ⟨⟨r0, r1⟩, f0, f1⟩ := HSB.out.r.c
            clear hN
            go_wp2
            refine side2_end (o := 0) (v := .slice none 0 0) Try.results45 rfl rfl rfl (HSB.out.r.set 0 (.slice none 0 0)) ?_
            obtain ⟨r1, r2, r3⟩ := HR.out
            rw [r1, r2, r3]
            exact ⟨_, rfl, Mine.nil' _ (two_kept (HWW.out.trans HK0.out) (by have := HWW.out.size; omega)), two_kept HK0.out (by omega)⟩
end Go.Proofs.Ytiiibhdohlpodaa
namespace Go.Proofs.Ytiiibhdohlpodaa
open Go.RowKit
attribute [local go_sem ↓] Go.wp_at_zero Go.wp_at_succ
end Go.Proofs.Ytiiibhdohlpodaa
namespace Go.Proofs.Ytiiibhdohlpodaa
open Go.RowKit
attribute [local go_sem ↓] Go.wp_at_zero Go.wp_at_succ
end Go.Proofs.Ytiiibhdohlpodaa
namespace Go.Proofs.Ytiiibhdohlpodaa
open Go.RowKit
attribute [local go_sem ↓] Go.wp_at_zero Go.wp_at_succ
end Go.Proofs.Ytiiibhdohlpodaa

