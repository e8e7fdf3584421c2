/- package symtab, layer 34: what Prefix asks (written by tools/gen_XT9.py). -/
import Derived.Test.YtkidbbmdlmnokaaT8
import Derived.Test.YtkidbbmdlmnokaaG2
namespace Go.Proofs.Ytkidbbmdlmnokaa
open Go.RowKit
attribute [local go_sem ↓] Go.wp_at_zero Go.wp_at_succ
set_option maxHeartbeats 2000000 in
theorem prefix1_any (r o0 q1 q2 m cp k : Nat) (x s : ByteArray) (w : World) (hk : k < m)
    (h1 : w.cell? ⟨q1, 0, none⟩ = some (.slice (some ⟨r, o0, none⟩) m cp)) (h2 : w.cell? ⟨q2, 0, none⟩ = some (.string s)) (hx : w.cell? ⟨r, o0 + k, none⟩ = some (.string x)) :
    Calls Try.prog 83 #[.int .i64 (k : Int), .pointer (some ⟨q1, 0, none⟩), .pointer (some ⟨q2, 0, none⟩)] w fun e w' => e = .returned (.bool (!begS x s)) ∧ Kept (fun _ => False) w w' := by
  have hkd := (Kept.refl (fun _ => False) w).drew
  have HSS : Hid ((fun w' => (w'.cell? ⟨q1, 0, none⟩ = some (.slice (some ⟨r, o0, none⟩) m cp) ∧ w'.cell? ⟨q2, 0, none⟩ = some (.string s) ∧ w'.cell? ⟨r, o0 + k, none⟩ = some (.string x)) ∧ Kept (fun _ => False) w w') w.drew) := Lib.hid ⟨⟨hkd.cell h1 (fun x => x), hkd.cell h2 (fun x => x), hkd.cell hx (fun x => x)⟩, hkd⟩
  have hil : (k : Int) < (m : Int) := by omega
  have hi0 : (0 : Int) ≤ (k : Int) := by omega
  clear hk hkd h1 h2 hx
  go_enter Try.func83, Try.ntmps83
  go_upto_region 1 with fail
  refine AnyBut.start (S := fun w' => (w'.cell? ⟨q1, 0, none⟩ = some (.slice (some ⟨r, o0, none⟩) m cp) ∧ w'.cell? ⟨q2, 0, none⟩ = some (.string s) ∧ w'.cell? ⟨r, o0 + k, none⟩ = some (.string x)) ∧ Kept (fun _ => False) w w') (k := 7) (by kernel_rfl) ?_
  refine AnyBut.take (i := 0) (v := ?v1) rfl (by kernel_rfl) (by kernel_rfl) (by kernel_rfl) (by kernel_rfl) (fun _ _ _ h => h) (HSS.out) (Or.inl ⟨by kernel_rfl, ?hy1⟩) ?r1
  case hy1 =>
    intro w hSw
    try dsimp only at hSw
    go_simp
    try with_reducible rfl
  try simp only [Act.put, List.getElem_toArray, List.getElem_cons_zero, List.setIfInBounds_toArray, List.set_cons_zero, List.set_cons_succ]
  refine AnyBut.take (i := 1) (v := ?v2) rfl (by kernel_rfl) (by kernel_rfl) (by kernel_rfl) (by kernel_rfl) (fun _ _ _ h => h) (HSS.out) (Or.inl ⟨by kernel_rfl, ?hy2⟩) ?r2
  case hy2 =>
    intro w hSw
    try dsimp only at hSw
    go_simp
    try with_reducible rfl
  try simp only [Act.put, List.getElem_toArray, List.getElem_cons_succ, List.getElem_cons_zero, List.setIfInBounds_toArray, List.set_cons_zero, List.set_cons_succ]
  refine AnyBut.take (i := 2) (v := ?v3) rfl (by kernel_rfl) (by kernel_rfl) (by kernel_rfl) (by kernel_rfl) (fun _ _ _ h => h) (HSS.out) (Or.inl ⟨by kernel_rfl, ?hy3⟩) ?r3
  case hy3 =>
    intro w hSw
    try dsimp only at hSw
    go_simp
    try with_reducible rfl
  try simp only [Act.put, List.getElem_toArray, List.getElem_cons_succ, List.getElem_cons_zero, List.setIfInBounds_toArray, List.set_cons_zero, List.set_cons_succ]
  refine AnyBut.take (i := 3) (v := ?v4) rfl (by kernel_rfl) (by kernel_rfl) (by kernel_rfl) (by kernel_rfl) (fun _ _ _ h => h) (HSS.out) (Or.inl ⟨by kernel_rfl, ?hy4⟩) ?r4
  case hy4 =>
    intro w hSw
    try dsimp only at hSw
    go_simp
    try with_reducible rfl
  try simp only [Act.put, List.getElem_toArray, List.getElem_cons_succ, List.getElem_cons_zero, List.setIfInBounds_toArray, List.set_cons_zero, List.set_cons_succ]
  refine AnyBut.take (i := 4) (v := ?v5) rfl (by kernel_rfl) (by kernel_rfl) (by kernel_rfl) (by kernel_rfl) (fun _ _ _ h => h) (HSS.out) (Or.inl ⟨by kernel_rfl, ?hy5⟩) ?r5
  case hy5 =>
    intro w hSw
    try dsimp only at hSw
    go_simp
    try with_reducible rfl
  try simp only [Act.put, List.getElem_toArray, List.getElem_cons_succ, List.getElem_cons_zero, List.setIfInBounds_toArray, List.set_cons_zero, List.set_cons_succ]
  refine AnyBut.one (i := 5) (by kernel_rfl) rfl (fun K hK => ?_)
  go_simp
  go_wp2_with fail
  refine (hasPre_any x s _).mono ?_
  rintro e w4 ⟨rfl, rfl⟩
  go_wp2
  refine hK.out _ _ (HSS.out) ?_
  clear hK K
  try simp only [Act.put, List.getElem_toArray, List.getElem_cons_succ, List.getElem_cons_zero, List.setIfInBounds_toArray, List.set_cons_zero, List.set_cons_succ]
  refine AnyBut.take (i := 6) (v := ?v6) rfl (by kernel_rfl) (by kernel_rfl) (by kernel_rfl) (by kernel_rfl) (fun _ _ _ h => h) (HSS.out) (Or.inl ⟨by kernel_rfl, ?hy6⟩) ?r6
  case hy6 =>
    intro w hSw
    try dsimp only at hSw
    go_simp
    try with_reducible rfl
  try simp only [Act.put, List.getElem_toArray, List.getElem_cons_succ, List.getElem_cons_zero, List.setIfInBounds_toArray, List.set_cons_zero, List.set_cons_succ]
  refine AnyBut.last (by kernel_rfl) rfl (by kernel_rfl) (fun K hK => ?_)
  go_wp2
  refine hK.out _ _ ?_
  clear hK K
  try simp only [Act.put, List.getElem_toArray, List.getElem_cons_succ, List.getElem_cons_zero, List.setIfInBounds_toArray, List.set_cons_zero, List.set_cons_succ]
  go_wp2
  go_ret
  exact ⟨rfl, HSS.out.2⟩
end Go.Proofs.Ytkidbbmdlmnokaa
