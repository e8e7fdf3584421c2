/- Layer 1: Put, whatever is put; slices of integers that came in; what rows of different types share. -/
import Derived.Test.YtanhdjdojeoodaaB9
namespace Go.Proofs.Ytanhdjdojeoodaa
open Go.RowKit
attribute [local go_sem ↓] Go.wp_at_zero Go.wp_at_succ

/-- A slice of integers that came in, as the row of its elements. -/
theorem IsRow.slAtI {k : IntKind} {w : World} {a : Option Addr} {len cap : Nat} {zs : List Int} (h : IsRow k w a len cap zs) :
    ∃ l : List Int, l.length = len ∧ (∀ x ∈ l, (Lit.int k x).wf = true) ∧ SlAt w (.slice a len cap) (l.map (Value.int k)) := by
  rcases h with ⟨rfl, rfl, rfl, rfl⟩ | ⟨x, rfl, hlc, _, hz, hcell, hwf⟩
  · exact ⟨[], rfl, by simp, ⟨none, 0, rfl, fun _ => rfl, by simp⟩⟩
  · refine ⟨zs.take len, by simp; omega, fun y hy => hwf y (List.mem_of_mem_take hy), ⟨some x, cap, ?_, (fun e => by cases e), ?_⟩⟩
    · rw [List.length_map, List.length_take, Nat.min_eq_left (by omega)]
    · intro a ha j u hu
      cases ha
      have hj : j < len := by
        have := (List.getElem?_eq_some_iff.1 hu).1
        simp at this; omega
      have hjz : j < zs.length := by omega
      rw [hcell j hjz, List.getD_eq_getElem?_getD, List.getElem?_eq_getElem hjz]
      simp only [List.getElem?_map, List.getElem?_take, if_pos hj, List.getElem?_eq_getElem hjz, Option.map_some] at hu
      exact hu
theorem IsRow.slAtN {k : IntKind} {w : World} {a : Option Addr} {len cap : Nat} {zs : List Int} (M : Nat) (hk : ∀ x, (Lit.int k x).wf = true → 0 ≤ x ∧ x < M) (h : IsRow k w a len cap zs) :
    ∃ l : List Nat, l.length = len ∧ (∀ x ∈ l, x < M) ∧ SlAt w (.slice a len cap) (l.map fun (n : Nat) => Value.int k (n : Int)) := by
  obtain ⟨l, hl, hb, hv⟩ := h.slAtI
  refine ⟨l.map Int.toNat, by simpa using hl, ?_, ?_⟩
  · intro n hn
    obtain ⟨m, hm, rfl⟩ := List.mem_map.1 hn
    have := hk m (hb m hm)
    omega
  · have e : (l.map Int.toNat).map (fun (n : Nat) => Value.int k (n : Int)) = l.map (Value.int k) := by
      rw [List.map_map]
      apply List.map_congr_left
      intro m hm
      have := hk m (hb m hm)
      simp only [Function.comp_apply]
      congr 1
      omega
    rw [e]; exact hv
theorem wf_u64 (x : Int) (h : (Lit.int .u64 x).wf = true) : 0 ≤ x ∧ x < (18446744073709551616 : Nat) := by
  have := bd_u64 h; omega

/-- An element of a slice, at its place. -/
theorem SlAt.elem {w : World} {ao : Option Addr} {n c : Nat} {xs : List Value} (h : SlAt w (.slice ao n c) xs) {i : Nat} {u : Value} (hu : xs[i]? = some u) : ∃ g off, ao = some ⟨g, off, none⟩ ∧ w.cell? ⟨g, off + i, none⟩ = some u := by
  have hi := (List.getElem?_eq_some_iff.1 hu).1
  obtain ⟨g, off, c', e, hc⟩ := h.addr (by omega)
  injection e with e1 e2 e3
  exact ⟨g, off, e1, hc i u hu⟩
theorem SlAt.len {w : World} {ao : Option Addr} {n c : Nat} {xs : List Value} (h : SlAt w (.slice ao n c) xs) : xs.length = n := by
  obtain ⟨_, _, e, _⟩ := h.val
  injection e with e1 e2 e3
  exact e2.symm
theorem SlAt.lt {w : World} {ao : Option Addr} {n c : Nat} {xs : List Value} (h : SlAt w (.slice ao n c) xs) (h0 : 0 < n) {a : Addr} (ha : ao = some a) : a.block < w.heap.size := by
  have hl := h.len
  obtain ⟨g, off, e, hc⟩ := h.elem (i := 0) (u := xs[0]'(by omega)) (List.getElem?_eq_getElem (by omega))
  rw [ha] at e; cases e
  exact World.block_lt_of_cell? w _ hc

/-- Rows of different types share no block; nor does a row and a block of another type. -/
theorem own_ne {w : World} {B B' : Nat} {E E' : TypeId} {v v' : Value} {n n' s s' : Nat} {xs xs' : List Value} (h : w.ownsRow B E s v n xs) (h' : w.ownsRow B' E' s' v' n' xs') (hne : E ≠ E') {k : Nat} (e : v.ownBlock = some k) : v'.ownBlock ≠ some k := by
  intro e'
  obtain ⟨c, hc⟩ := ownsRow_block h e
  obtain ⟨c', hc'⟩ := ownsRow_block h' e'
  rw [hc] at hc'
  injection hc' with hc'
  injection hc' with _ ht
  exact hne ht
theorem own_ne_blk {w : World} {B : Nat} {E T : TypeId} {v : Value} {n s : Nat} {xs : List Value} {p : Nat} {cs : Array Value} (h : w.ownsRow B E s v n xs) (hp : w.heap[p]? = some (.cells cs T (0, 0))) (hne : E ≠ T) : v.ownBlock ≠ some p := by
  intro e
  obtain ⟨c, hc⟩ := ownsRow_block h e
  rw [hc] at hp
  injection hp with hp
  injection hp with _ ht
  exact hne ht

/-- May that be put down? -/
def putOK (x : Nat) (z : Int) : Bool := decide (0 ≤ z ∧ z ≤ 64 ∧ x < 2 ^ z.toNat)
/-- The bits that are put down of it. -/
def putB (x : Nat) (z : Int) : List Bool := if putOK x z = true then bitsN x z.toNat else []
theorem putB_length (x : Nat) (z : Int) : (putB x z).length ≤ 64 := by
  unfold putB putOK
  split
  · rename_i h; simp only [decide_eq_true_eq] at h; rw [bitsN_length]; omega
  · simp

theorem bput_any (B p : Nat) (v : Value) (bs : List Bool) (x : Nat) (z : Int) (w : World) (HW : BwAt w B p v bs) (hB : B ≤ w.heap.size) (hx : x < 18446744073709551616) (hl : bs.length ≤ 1000000000) :
    Calls Try.prog 16 #[.pointer (some ⟨p, 0, none⟩), .int .u64 x, .int .i64 z] w fun e w' => e = .returned (.bool (putOK x z)) ∧ BwTo w w' B p v (bs ++ putB x z) := by
  by_cases h : putOK x z = true
  · have h' := h
    unfold putOK at h'
    simp only [decide_eq_true_eq] at h'
    obtain ⟨n, rfl⟩ : ∃ n : Nat, z = n := ⟨z.toNat, by omega⟩
    have e : putB x (n : Int) = bitsN x n := by unfold putB; rw [if_pos h, Int.toNat_natCast]
    rw [e, h]
    exact bput_yes B p v bs x n w HW hB (by omega) (by simpa using h'.2.2) hl
  · have e : putB x z = [] := by unfold putB; rw [if_neg h]
    have h2 : putOK x z = false := by simpa using h
    have h' := h2
    unfold putOK at h'
    simp only [decide_eq_false_iff_not] at h'
    rw [e, h2, List.append_nil]
    refine (bput_no B p v bs x z w HW hx ?_).mono ?_
    · by_cases h0 : z < 0
      · exact .inl h0
      · by_cases h1 : 64 < z
        · exact .inr (.inl h1)
        · refine .inr (.inr ⟨by omega, by omega, ?_⟩)
          rcases Nat.lt_or_ge x (2 ^ z.toNat) with h3 | h3
          · exact absurd ⟨by omega, by omega, h3⟩ h'
          · exact h3
    · rintro e w' ⟨rfl, rfl⟩
      exact ⟨rfl, HW.to⟩

/-- What a row of puts has put down. -/
def putAll (zs : List (Nat × Int)) : List Bool := zs.flatMap fun a => putB a.1 a.2
theorem putAll_append (a b : List (Nat × Int)) : putAll (a ++ b) = putAll a ++ putAll b := List.flatMap_append
theorem putAll_snoc (zs : List (Nat × Int)) (a : Nat × Int) : putAll (zs ++ [a]) = putAll zs ++ putB a.1 a.2 := by simp [putAll]
theorem putAll_length (zs : List (Nat × Int)) : (putAll zs).length ≤ 64 * zs.length := by
  induction zs with
  | nil => simp [putAll]
  | cons a zs ih =>
    have h := putB_length a.1 a.2
    have e : putAll (a :: zs) = putB a.1 a.2 ++ putAll zs := rfl
    rw [e, List.length_append, List.length_cons]; omega
theorem putAll_take (zs : List (Nat × Int)) (i : Nat) (h : i < zs.length) : putAll (zs.take (i + 1)) = putAll (zs.take i) ++ putB zs[i].1 zs[i].2 := by
  rw [List.take_succ_eq_append_getElem h, putAll_snoc]
theorem putAll_at (zs : List (Nat × Int)) (i : Nat) (h : i < zs.length) : ((putAll zs).drop (putAll (zs.take i)).length).take (putB zs[i].1 zs[i].2).length = putB zs[i].1 zs[i].2 := by
  have e : putAll zs = putAll (zs.take i) ++ (putB zs[i].1 zs[i].2 ++ putAll (zs.drop (i + 1))) := by
    have h1 : zs = zs.take i ++ (zs[i] :: zs.drop (i + 1)) := by rw [← List.drop_eq_getElem_cons h, List.take_append_drop]
    have h2 : putAll zs = putAll (zs.take i) ++ putAll (zs[i] :: zs.drop (i + 1)) := by
      have : putAll (zs.take i ++ (zs[i] :: zs.drop (i + 1))) = putAll (zs.take i) ++ putAll (zs[i] :: zs.drop (i + 1)) := putAll_append _ _
      rw [← this, ← h1]
    rw [h2]; rfl
  rw [e, List.drop_left, List.take_left]
theorem putAll_le (zs : List (Nat × Int)) (i : Nat) (h : i < zs.length) : (putAll (zs.take i)).length + (putB zs[i].1 zs[i].2).length ≤ (putAll zs).length := by
  have e : putAll zs = putAll (zs.take (i + 1)) ++ putAll (zs.drop (i + 1)) := by
    have : putAll (zs.take (i + 1) ++ zs.drop (i + 1)) = putAll (zs.take (i + 1)) ++ putAll (zs.drop (i + 1)) := putAll_append _ _
    rw [← this, List.take_append_drop]
  rw [e, putAll_take zs i h, List.length_append, List.length_append]; omega

theorem Try.infoBool : (Try.prog.info? 4).map (fun i => (i.zero, i.size, i.bytes)) = some (some (.bool false), 1, 1) := by kernel_rfl
theorem openE_packed (bs : List Bool) : openE (packB bs) bs.length = 0 := by
  unfold openE
  have hl := packB_length bs
  rw [if_neg (by omega), if_neg (by omega), if_neg (by omega), Int.toNat_natCast]
  rw [open_rest _ _ (by omega) (by omega), packB_getD]
  by_cases h : 0 < bs.length % 8
  · have e : byteAt bs (bs.length / 8) % 2 ^ (8 - bs.length % 8) = 0 := by
      apply Nat.eq_of_testBit_eq
      intro i
      rw [Nat.testBit_mod_two_pow, byteAt_testBit, Nat.zero_testBit]
      by_cases hi : i < 8 - bs.length % 8
      · rw [List.getD_eq_getElem?_getD, List.getElem?_eq_none (by omega)]; simp
      · simp [hi]
    rw [e]; simp
  · have e : decide (0 < bs.length % 8) = false := decide_eq_false h
    rw [e]; simp
theorem bitsOf_packB (bs : List Bool) : (bitsOf (packB bs)).take bs.length = bs := by
  apply List.ext_getElem?
  intro j
  rw [List.getElem?_take]
  by_cases h : j < bs.length
  · rw [if_pos h]
    have h1 := bitsOf_getD (packB bs) (j / 8) (7 - j % 8) (by omega)
    have e : 8 * (j / 8) + (7 - (7 - j % 8)) = j := by omega
    rw [e, packB_getD, byteAt_testBit, List.getD_eq_getElem?_getD, List.getD_eq_getElem?_getD, e] at h1
    have hj : j < (bitsOf (packB bs)).length := by rw [bitsOf_length, packB_length]; omega
    rw [List.getElem?_eq_getElem hj, List.getElem?_eq_getElem h] at h1 ⊢
    simp at h1 ⊢
    rw [h1]; simp; omega
  · rw [if_neg h, List.getElem?_eq_none (by omega)]
end Go.Proofs.Ytanhdjdojeoodaa
