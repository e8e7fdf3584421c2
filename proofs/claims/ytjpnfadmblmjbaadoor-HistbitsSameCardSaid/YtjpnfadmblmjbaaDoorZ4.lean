/- package histbits: putShape. -/
import Derived.Test.YtjpnfadmblmjbaaDoorZ3
namespace Go.Proofs.YtjpnfadmblmjbaaDoor
open Go.RowKit
attribute [local go_sem ↓] Go.wp_at_zero Go.wp_at_succ

theorem zgN_eq (a : Int) (h0 : -9223372036854775808 ≤ a) (h1 : a ≤ 9223372036854775807) : zigI a = (zgN a : Int) ∧ zgN a < 18446744073709551616 := by
  unfold zgN zigI
  split <;> omega
theorem smallB_len (v : Nat) : (smallB v).length ≤ 66 := by
  unfold smallB
  have hc := classN_le v
  rw [List.length_append, bitsN_length, bitsN_length]
  have hcc : classN v = 0 ∨ classN v = 1 ∨ classN v = 2 ∨ classN v = 3 := by omega
  rcases hcc with h | h | h | h <;> rw [h] <;> decide
theorem sideB_len (o : Int) (n : Nat) : (sideB o n).length ≤ 74 := by
  unfold sideB
  rw [List.length_append, bitsN_length]
  split
  · simp
  · have := smallB_len (zgN o); omega
theorem keptTo {S : Nat → Prop} {w w' : World} (h : Kept (fun _ => False) w w') : Kept S w w' := by
  obtain ⟨a, b, c, d, e⟩ := h
  exact ⟨a, b, c, d, fun j hj _ => e j hj (fun x => x)⟩
/-- A writer that something was done beside. -/
theorem BwAt.beside {w w' : World} {B p : Nat} {v : Value} {bs : List Bool} (h : BwAt w B p v bs) (k : Kept (fun _ => False) w w') : BwTo w w' B p v bs := ⟨v, h.keptF k, .inl rfl, keptTo k⟩
/-- What is newer than the writer stays. -/
theorem BwTo.newer {w w' : World} {B p q : Nat} {v : Value} {bs' : List Bool} {o : Obj} (t : BwTo w w' B p v bs') (hq : w.heap[q]? = some o) (h1 : q ≠ p) (h2 : v.ownBlock ≠ some q) : w'.heap[q]? = some o := by
  obtain ⟨v', _, _, hk⟩ := t
  exact hk.same hq (by rintro (e | e); exact h1 e; exact h2 e)
theorem box2s {w : World} {g : Nat} {a b : Value} {T : TypeId} (h : w.heap[g]? = some (.cells #[a, b] T (0, 0))) : w.cell? ⟨g, 0, none⟩ = some a ∧ w.cell? ⟨g, 1, none⟩ = some b :=
  ⟨by rw [cell_of_row _ _ 0 _ _ _ h]; rfl, by rw [cell_of_row _ _ 1 _ _ _ h]; rfl⟩
end Go.Proofs.YtjpnfadmblmjbaaDoor
