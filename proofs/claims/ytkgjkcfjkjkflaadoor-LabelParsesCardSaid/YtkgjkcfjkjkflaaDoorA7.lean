/- Layer 11: attributes sorted, plainly; rows of attributes that are made; Clone; the comparison. -/
import Derived.Test.YtkgjkcfjkjkflaaDoorA6
import Derived.Deep.WholeRow
namespace Go.Proofs.YtkgjkcfjkjkflaaDoor
open Go.RowKit
attribute [local go_sem ↓] Go.wp_at_zero Go.wp_at_succ

/-- Is a text below another one? -/
def ltS (a b : ByteArray) : Bool := Op.bytesLess a.toList b.toList
theorem bytesLess_total : ∀ x y : List UInt8, (Op.bytesLess x y || x == y) = !Op.bytesLess y x
  | [], [] => rfl
  | [], _ :: _ => rfl
  | _ :: _, [] => rfl
  | a :: x, b :: y => by
    have ih := bytesLess_total x y
    unfold Op.bytesLess
    have h1 : ((a :: x) == (b :: y)) = ((a == b) && (x == y)) := rfl
    rw [h1]
    by_cases hab : a = b
    · subst hab
      have hlt : decide (a < a) = false := decide_eq_false (by exact fun h => absurd h (by simp [UInt8.lt_irrefl]))
      simp only [beq_self_eq_true, Bool.true_and, hlt, Bool.false_or]
      exact ih
    · have hb1 : (a == b) = false := beq_eq_false_iff_ne.2 hab
      have hb2 : (b == a) = false := beq_eq_false_iff_ne.2 (fun e => hab e.symm)
      simp only [hb1, hb2, Bool.false_and, Bool.or_false]
      rcases Nat.lt_trichotomy a.toNat b.toNat with h | h | h
      · have l1 : decide (a < b) = true := decide_eq_true (UInt8.lt_iff_toNat_lt.2 h)
        have l2 : decide (b < a) = false := decide_eq_false (fun e => by have := UInt8.lt_iff_toNat_lt.1 e; omega)
        rw [l1, l2]; rfl
      · exact absurd (UInt8.toNat_inj.1 h) hab
      · have l1 : decide (b < a) = true := decide_eq_true (UInt8.lt_iff_toNat_lt.2 h)
        have l2 : decide (a < b) = false := decide_eq_false (fun e => by have := UInt8.lt_iff_toNat_lt.1 e; omega)
        rw [l1, l2]; rfl
theorem gtS (a b : ByteArray) : (!(Op.bytesLess a.toList b.toList || a.toList == b.toList)) = ltS b a := by rw [bytesLess_total, Bool.not_not]; rfl
def pr0 : Pr := ⟨ByteArray.empty, ByteArray.empty⟩
/-- The place of x among the first j of A, from the right. -/
def plc (A : List Pr) (x : Pr) : Nat → Nat
  | 0 => 0
  | j + 1 => if ltS x.k (A.getD j pr0).k = true then plc A x j else j + 1
theorem plc_le (A : List Pr) (x : Pr) (j : Nat) : plc A x j ≤ j := by
  induction j with
  | zero => exact Nat.le_refl _
  | succ j ih => unfold plc; split <;> omega
/-- x put in its place. -/
def insP (A : List Pr) (x : Pr) : List Pr := A.take (plc A x A.length) ++ x :: A.drop (plc A x A.length)
/-- Attributes by rising keys. -/
def sortP (L : List Pr) : List Pr := L.foldl insP []
theorem sortP_snoc (L : List Pr) (x : Pr) : sortP (L ++ [x]) = insP (sortP L) x := by unfold sortP; rw [List.foldl_append]; rfl
theorem insP_length (A : List Pr) (x : Pr) : (insP A x).length = A.length + 1 := by
  unfold insP
  have := plc_le A x A.length
  rw [List.length_append, List.length_take, List.length_cons, List.length_drop]
  omega
theorem sortP_length (L : List Pr) : (sortP L).length = L.length := by
  have key : ∀ (L A : List Pr), (L.foldl insP A).length = A.length + L.length := by
    intro L
    induction L with
    | nil => intro A; rfl
    | cons x L ih => intro A; rw [List.foldl_cons, ih, insP_length, List.length_cons]; omega
  have := key L []
  simpa [sortP] using this
theorem sortP_take_succ {L : List Pr} {i : Nat} {x : Pr} (h : L[i]? = some x) : sortP (L.take (i + 1)) = insP (sortP (L.take i)) x := by
  rw [List.take_add_one, h, Option.toList_some, sortP_snoc]
theorem insP_mem {A : List Pr} {x y : Pr} : y ∈ insP A x ↔ y = x ∨ y ∈ A := by
  unfold insP
  rw [List.mem_append, List.mem_cons]
  constructor
  · rintro (h | h | h)
    · exact .inr (List.mem_of_mem_take h)
    · exact .inl h
    · exact .inr (List.mem_of_mem_drop h)
  · rintro (h | h)
    · exact .inr (.inl h)
    · rw [← List.take_append_drop (plc A x A.length) A, List.mem_append] at h
      rcases h with h | h
      · exact .inl h
      · exact .inr (.inr h)
theorem sortP_mem {L : List Pr} {y : Pr} : y ∈ sortP L ↔ y ∈ L := by
  have key : ∀ (L A : List Pr), y ∈ L.foldl insP A ↔ y ∈ A ∨ y ∈ L := by
    intro L
    induction L with
    | nil => intro A; simp
    | cons x L ih =>
      intro A
      rw [List.foldl_cons, ih, insP_mem, List.mem_cons]
      constructor
      · rintro ((h | h) | h)
        · exact .inr (.inl h)
        · exact .inl h
        · exact .inr (.inr h)
      · rintro (h | h | h)
        · exact .inl (.inr h)
        · exact .inl (.inl h)
        · exact .inr h
  have := key L []
  simpa [sortP] using this

def flatP (L : List Pr) : List Value := L.flatMap fun p => [.string p.k, .string p.v]
theorem flatP_length (L : List Pr) : (flatP L).length = L.length * 2 := by
  induction L with
  | nil => rfl
  | cons p L ih => unfold flatP at ih ⊢; rw [List.flatMap_cons, List.length_append, ih]; simp; omega
theorem flatP_append (a b : List Pr) : flatP (a ++ b) = flatP a ++ flatP b := by simp [flatP]
theorem flatP_get {L : List Pr} {i : Nat} {p : Pr} (h : L[i]? = some p) {j : Nat} (hj : j < 2) : (flatP L)[i * 2 + j]? = ([.string p.k, .string p.v] : List Value)[j]? := by
  induction L generalizing i with
  | nil => simp at h
  | cons q L ih =>
    unfold flatP at ih ⊢
    rw [List.flatMap_cons]
    cases i with
    | zero =>
      simp at h; subst h
      rw [List.getElem?_append_left (by simp; omega)]; simp
    | succ i =>
      simp at h
      rw [List.getElem?_append_right (by simp; omega), show (i + 1) * 2 + j - ([.string q.k, .string q.v] : List Value).length = i * 2 + j by simp; omega]
      exact ih h
theorem flatP_one (L : List Pr) : ∀ u ∈ flatP L, u.oneCell' = true := by
  intro u hu
  unfold flatP at hu
  obtain ⟨p, _, hp⟩ := List.mem_flatMap.1 hu
  simp at hp
  rcases hp with rfl | rfl <;> rfl
/-- A row of attributes that was made behind the world W. -/
structure MineP (W w : World) (v : Value) (L : List Pr) : Prop where
  own : w.ownsRow W.heap.size 40 2 v L.length (flatP L)
  kept : Kept (fun _ => False) W w
theorem MineP.nil {W w : World} (k : Kept (fun _ => False) W w) : MineP W w (.slice none 0 0) [] := ⟨World.ownsRow_nil _ _ _ _, k⟩
theorem MineP.on {W w w' : World} {v : Value} {L : List Pr} (h : MineP W w v L) (hk : Kept (fun _ => False) w w') : MineP W w' v L := ⟨hk.owns h.own (fun _ _ x => x), h.kept.trans hk⟩
theorem MineP.keptS {S : Nat → Prop} {W w w' : World} {v : Value} {L : List Pr} (h : MineP W w v L) (hk : Kept S w w') (hn : ∀ k, v.ownBlock = some k → ¬ S k) (hs : ∀ k, S k → W.heap.size ≤ k) : MineP W w' v L := ⟨hk.owns h.own hn, h.kept.newer hk hs⟩
theorem MineP.down {W0 W w : World} {v : Value} {L : List Pr} (h : MineP W w v L) (hk : Kept (fun _ => False) W0 W) : MineP W0 w v L := by
  refine ⟨⟨h.own.1, ?_⟩, hk.trans h.kept⟩
  rcases h.own.2 with h0 | ⟨g, cap, cur, e, hg, rest⟩
  · exact .inl h0
  · exact .inr ⟨g, cap, cur, e, Nat.le_trans hk.size hg, rest⟩
theorem MineP.slice {W w : World} {v : Value} {L : List Pr} (h : MineP W w v L) : ∃ a c, v = .slice a L.length c := ownsRow_slice h.own
theorem MineP.at_ {W w : World} {a : Option Addr} {n c : Nat} {L : List Pr} (h : MineP W w (.slice a n c) L) : PsAt w a L := by
  intro h0
  rcases h.own.2 with ⟨_, e⟩ | ⟨g, cap, cur, e, _⟩
  · omega
  · injection e with e1 e2 e3
    subst e1
    refine ⟨g, 0, rfl, fun i p hi => ?_⟩
    have hc := h.own.cells (g := g) rfl
    have key : ∀ j u, j < 2 → ([.string p.k, .string p.v] : List Value)[j]? = some u → w.cell? ⟨g, i * 2 + j, none⟩ = some u := by
      intro j u hj hu
      have := hc (i * 2 + j) u (by rw [flatP_get hi hj]; exact hu)
      rwa [addr_add0] at this
    exact ⟨by rw [Nat.zero_add]; exact key 0 _ (by omega) rfl, by rw [Nat.zero_add]; exact key 1 _ (by omega) rfl⟩
theorem PsAt.src {w : World} {ao : Option Addr} {L : List Pr} {c : Nat} (h : PsAt w ao L) (h0 : L.length = 0 → True) : Src Tryd.prog 2 22 (.slice ao L.length c) L.length (flatP L) w := by
  cases ao with
  | none =>
    have hz : L.length = 0 := by
      rcases Nat.eq_zero_or_pos L.length with h1 | h1
      · exact h1
      · obtain ⟨_, _, e, _⟩ := h h1; cases e
    obtain rfl : L = [] := List.length_eq_zero_iff.1 hz
    exact Src.ofNil (w := w) Tryd.underlying22 c
  | some a =>
    refine Src.ofSlice _ Tryd.underlying22 a L.length c (flatP L) (flatP_length L) ?_ (flatP_one L)
    intro j u hu
    have hj : j < L.length * 2 := by have := (List.getElem?_eq_some_iff.1 hu).1; rwa [flatP_length] at this
    obtain ⟨g, o, e, hr⟩ := h (by omega)
    cases e
    have hi : j / 2 < L.length := by omega
    have hp := hr (j / 2) L[j / 2] (List.getElem?_eq_getElem hi)
    have hg := flatP_get (List.getElem?_eq_getElem hi) (j := j % 2) (by omega)
    rw [show j / 2 * 2 + j % 2 = j by omega, hu] at hg
    have e : (⟨g, o, none⟩ : Addr).add j = ⟨g, o + j, none⟩ := by unfold Addr.add; split <;> simp_all
    rw [e]
    rcases Nat.mod_two_eq_zero_or_one j with hm | hm
    · rw [hm] at hg
      injection hg with hg
      subst hg
      have := hp.c0
      rwa [show j / 2 * 2 = j by omega] at this
    · rw [hm] at hg
      injection hg with hg
      subst hg
      have := hp.c1
      rwa [show o + j / 2 * 2 + 1 = o + j by omega] at this
theorem wpList_mineP {ops : Array Oper} {rest : List Oper} {o : Oper} {a : Act} {Q : Exit → Act → World → Prop} {w : World} (hgd : o.guard = none) (s x : Operand)
    (ho : o.op = .call { callee := .builtin .append, args := #[s, x], argTypes := #[22, 22] })
    (W : World) (v : Value) (L : List Pr) (hv : a.eval s = v) (hm : MineP W w v L)
    (y : Value) (M : List Pr) (m : Nat) (hmm : M.length = m) (hy : a.eval x = y) (hs : Src Tryd.prog 2 22 y m (flatP M) w)
    (hl : L.length + m ≤ 1000000000)
    (h : ∀ v' w', MineP W w' v' (L ++ M) → Kept (fun k => v.ownBlock = some k) w w' → wpList Tryd.prog ops Q rest (a.put o.dst v') w') : wpList Tryd.prog ops Q (o :: rest) a w := by
  obtain ⟨i, hi, hz0, hz1, hz2⟩ := info_parts Tryd.infoPair
  refine wpList_append_src w hgd s x _ _ ho W.heap.size 40 i _ 2 32 Tryd.underlying22 hi hz0 hz1 hz2 rfl v L.length (flatP L) hv hm.own y m (flatP M) hy hs (by unfold maxLen; omega) (by omega) hm.kept.size ?_
  intro v' w' hown hg _ hat
  refine h v' w' ⟨?_, ?_⟩ ((Kept.refl (fun k => v.ownBlock = some k) w).grown hg (fun k e _ => e))
  · rw [List.length_append, flatP_append, hmm]
    exact hown
  · exact hm.kept.grown hg (fun k e hlt => by have := (ownsRow_lt hm.own e).2; omega)
/-- A cell of an own row of elements of s cells is set. -/
theorem owns_setS {w : World} {base s : Nat} {E : TypeId} {g n cap : Nat} {xs : List Value} (h : w.ownsRow base E s (.slice (some ⟨g, 0, none⟩) n cap) n xs) (j : Nat) (u : Value) :
    (w.setCell ⟨g, j, none⟩ u).ownsRow base E s (.slice (some ⟨g, 0, none⟩) n cap) n (xs.set j u) := by
  refine ⟨by simpa using h.1, ?_⟩
  rcases h.2 with ⟨e, _⟩ | ⟨g', cap', cur, e, hb, hg, hn, hm, hs, ht⟩
  · cases e
  · injection e with e1 e2 e3
    injection e1 with e1
    injection e1 with e1
    subst e1
    subst e3
    refine .inr ⟨g, cap, cur.setIfInBounds j u, rfl, hb, ?_, hn, hm, by simpa using hs, ?_⟩
    · simp [World.setCell, Array.getElem?_modify, hg]
    · rw [← ht]
      simp [List.take_set]
theorem flatP_set (L : List Pr) (i : Nat) (p : Pr) : ((flatP L).set (i * 2) (.string p.k)).set (i * 2 + 1) (.string p.v) = flatP (L.set i p) := by
  induction L generalizing i with
  | nil => rfl
  | cons q L ih =>
    unfold flatP at ih ⊢
    cases i with
    | zero => simp
    | succ i =>
      rw [List.set_cons_succ, List.flatMap_cons, List.flatMap_cons, ← ih i]
      simp [show (i + 1) * 2 = i * 2 + 2 by omega, List.set_cons_succ]

theorem isNaN_any (s : ByteArray) (w : World) : Calls Tryd.prog 37 #[.string s] w fun e w' => e = .returned (.bool false) ∧ w = w' := by
  have hq : (s.toList == s.toList) = true := beq_iff_eq.2 rfl
  go_enter Tryd.func37, Tryd.ntmps37
  go_wp2
  go_ret
  exact ⟨rfl, rfl⟩
theorem compare_any (a b : ByteArray) (w : World) : Calls Tryd.prog 25 #[.string a, .string b] w fun e w' => ∃ z : Int, e = .returned (.int .i64 z) ∧ decide (z < 0) = ltS a b ∧ w = w' := by
  have HNA := Lib.hid fun s w => isNaN_any s w
  obtain ⟨lt, hlt⟩ : ∃ x, x = ltS a b := ⟨_, rfl⟩
  have h1 : Op.bytesLess a.toList b.toList = lt := hlt.symm
  rw [← hlt]
  clear hlt
  cases lt with
  | true =>
    go_enter Tryd.func25, Tryd.ntmps25
    go_wp2_with fail
    refine (HNA.out _ _).mono ?_
    rintro e w' ⟨rfl, rfl⟩
    go_wp2_with fail
    refine (HNA.out _ _).mono ?_
    rintro e w' ⟨rfl, rfl⟩
    go_wp2
    go_ret
    exact ⟨-1, rfl, by decide, rfl⟩
  | false =>
    cases he : (a.toList == b.toList) with
    | true =>
      go_enter Tryd.func25, Tryd.ntmps25
      go_wp2_with fail
      refine (HNA.out _ _).mono ?_
      rintro e w' ⟨rfl, rfl⟩
      go_wp2_with fail
      refine (HNA.out _ _).mono ?_
      rintro e w' ⟨rfl, rfl⟩
      go_wp2
      go_ret
      exact ⟨0, rfl, by decide, rfl⟩
    | false =>
      go_enter Tryd.func25, Tryd.ntmps25
      go_wp2_with fail
      refine (HNA.out _ _).mono ?_
      rintro e w' ⟨rfl, rfl⟩
      go_wp2_with fail
      refine (HNA.out _ _).mono ?_
      rintro e w' ⟨rfl, rfl⟩
      go_wp2
      go_ret
      exact ⟨1, rfl, by decide, rfl⟩
theorem cmpFn_any (p q : Pr) (w : World) :
    Calls Tryd.prog 24 #[.agg #[.string p.k, .string p.v], .agg #[.string q.k, .string q.v]] w fun e w' => ∃ z : Int, e = .returned (.int .i64 z) ∧ decide (z < 0) = ltS p.k q.k ∧ Kept (fun _ => False) w w' := by
  have HC := Lib.hid fun w => compare_any p.k q.k w
  go_enter Tryd.func24, Tryd.ntmps24
  go_wp2_with fail
  refine (HC.out _).mono ?_
  rintro e w' ⟨z, rfl, hz, rfl⟩
  go_wp2
  go_ret
  exact ⟨z, rfl, hz, ((Kept.refl _ _).alloc _).alloc _⟩
end Go.Proofs.YtkgjkcfjkjkflaaDoor
