/- Layer 14 plainly: things by when they were put down. -/
import Derived.Test.YtoppcohgjmghdaaS0
namespace Go.Proofs.Ytoppcohgjmghdaa
open Go.RowKit

/-- A thing: what it is, and which Put it was. -/
abbrev Th := Int × Nat
def valT (x : Th) : Value := .agg #[.int .i64 x.1, .int .i64 (x.2 : Int)]
/-- A thing is put down behind all others. -/
def putT (M : List (ByteArray × Th)) (s : ByteArray) (v : Int) (p : Nat) : List (ByteArray × Th) := delM M s ++ [(s, (v, p))]
/-- Things by when they were put down; p: how many Puts there were. -/
structure TOk (M : List (ByteArray × Th)) (p : Nat) : Prop where
  pair : M.Pairwise fun a b => a.1 ≠ b.1
  rise : M.Pairwise fun a b => a.2.2 < b.2.2
  below : ∀ a ∈ M, a.2.2 < p
theorem TOk.none (p : Nat) : TOk [] p := ⟨List.Pairwise.nil, List.Pairwise.nil, by intro a h; cases h⟩
theorem TOk.del {M : List (ByteArray × Th)} {p : Nat} (h : TOk M p) (s : ByteArray) : TOk (delM M s) p :=
  ⟨delM_pair h.pair s, h.rise.filter _, fun a ha => h.below a (delM_mem ha).1⟩
theorem TOk.put {M : List (ByteArray × Th)} {p : Nat} (h : TOk M p) (s : ByteArray) (v : Int) : TOk (putT M s v p) (p + 1) := by
  have hd := h.del s
  refine ⟨List.pairwise_append.2 ⟨hd.pair, List.pairwise_singleton _ _, fun a ha b hb => ?_⟩, List.pairwise_append.2 ⟨hd.rise, List.pairwise_singleton _ _, fun a ha b hb => ?_⟩, fun a ha => ?_⟩
  · rw [List.mem_singleton.1 hb]; exact (delM_mem ha).2
  · rw [List.mem_singleton.1 hb]; exact hd.below a ha
  · rcases List.mem_append.1 ha with e | e
    · have := hd.below a e; omega
    · rw [List.mem_singleton.1 e]; exact Nat.lt_succ_self p
theorem getM_putT (M : List (ByteArray × Th)) (s : ByteArray) (v : Int) (p : Nat) (t : ByteArray) : getM (putT M s v p) t = if s = t then some (v, p) else getM M t := by
  unfold putT
  rw [getM_append, getM_del]
  show _ = _
  by_cases e : s = t
  · rw [if_pos e, if_pos e]
    show (none : Option Th).or (if s = t then some (v, p) else none) = _
    rw [if_pos e]; rfl
  · rw [if_neg e, if_neg e]
    show (getM M t).or (if s = t then some (v, p) else none) = _
    rw [if_neg e]
    cases getM M t <;> rfl
/-- The map's own order against the order of the Puts. -/
theorem perm_putT {L M : List (ByteArray × Th)} (hL : L.Pairwise fun a b => a.1 ≠ b.1) {p : Nat} (hM : TOk M p) (h : L.Perm M) (s : ByteArray) (v : Int) : (setM L s (v, p)).Perm (putT M s v p) :=
  perm_of_get (setM_pair hL s _) (hM.put s v).pair (fun t => by rw [getM_set, getM_putT, get_of_perm hL h])
theorem perm_delT {L M : List (ByteArray × Th)} (h : L.Perm M) (s : ByteArray) : (delM L s).Perm (delM M s) := h.filter _
/-- Which key Oldest tells. -/
def oldT : List (ByteArray × Th) → ByteArray
  | [] => ByteArray.empty
  | q :: _ => q.1
/-- What a room there is. -/
def roomT (most : Int) (n : Nat) : Int := max 0 (most - n)
end Go.Proofs.Ytoppcohgjmghdaa
