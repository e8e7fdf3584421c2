/- Layer 34: rows of texts that are made; slices.Clone of texts; All. -/
import Derived.Test.YtkidbbmdlmnokaaT9
import Derived.Test.YtkidbbmdlmnokaaT5
namespace Go.Proofs.Ytkidbbmdlmnokaa
open Go.RowKit
attribute [local go_sem ↓] Go.wp_at_zero Go.wp_at_succ

theorem Try.infoT : (Try.prog.info? 9).map (fun i => (i.zero, i.size, i.bytes)) = some (some (.string ByteArray.empty), 1, 16) := by kernel_rfl
/-- Texts as values. -/
def strs (L : List ByteArray) : List Value := L.map Value.string
@[simp] theorem strs_length (L : List ByteArray) : (strs L).length = L.length := List.length_map ..
theorem strs_append (a b : List ByteArray) : strs (a ++ b) = strs a ++ strs b := List.map_append
theorem strs_one (L : List ByteArray) : ∀ u ∈ strs L, u.oneCell' = true := by
  intro u hu
  obtain ⟨n, _, rfl⟩ := List.mem_map.1 hu
  rfl
theorem wpList_mineT {ops : Array Oper} {rest : List Oper} {o : Oper} {a : Act} {Q : Exit → Act → World → Prop} {w : World} (hgd : o.guard = none) (s x : Operand)
    (ho : o.op = .call { callee := .builtin .append, args := #[s, x], argTypes := #[49, 49] })
    (W : World) (v : Value) (L : List ByteArray) (hv : a.eval s = v) (hm : Mine W w 9 v (strs L))
    (y : Value) (M : List ByteArray) (hy : a.eval x = y) (hs : Src Try.prog 1 49 y (strs M).length (strs M) w)
    (hl : (strs L).length + (strs M).length ≤ 1000000000000)
    (h : ∀ v' w', Mine W w' 9 v' (strs (L ++ M)) → Kept (fun k => v.ownBlock = some k) w w' → (v'.ownBlock = v.ownBlock ∨ v'.ownBlock = some w.heap.size) → wpList Try.prog ops Q rest (a.put o.dst v') w') : wpList Try.prog ops Q (o :: rest) a w := by
  obtain ⟨iI, hiI, hzI0, hzI1, hzI2⟩ := info_parts Try.infoT
  refine wpList_mine2 hgd s x _ _ ho 9 iI (.string ByteArray.empty) 16 Try.underlying49 hiI hzI0 hzI1 hzI2 rfl (by omega) W v (strs L) hv hm y (strs M) hy hs hl ?_
  rw [← strs_append]
  exact h
theorem src_oneT (w : World) (s : ByteArray) : Src Try.prog 1 49 (.slice (some ⟨w.heap.size, 0, none⟩) 1 1) (strs [s]).length (strs [s]) (w.alloc (.cells #[.string s] 9)) := src_one w Try.underlying49 (.string s) rfl
set_option maxHeartbeats 1000000 in
theorem sclone_any (ao : Option Addr) (c : Nat) (L : List ByteArray) (w : World) (hv : StrsAt w (.slice ao L.length c) L) (hl : L.length ≤ 1000000) :
    Calls Try.prog 80 #[.slice ao L.length c] w fun e w' => ∃ v, e = .returned v ∧ Mine w w' 9 v (strs L) := by
  have q29 := fun (w : World) (a : Option Addr) (n c n' c' : Nat) => Lib.run_eql_slice_nil (P := Try.prog) w 49 9 a n c n' c' Try.underlying49
  cases ao with
  | none =>
    have hz : L = [] := by
      rcases Nat.eq_zero_or_pos L.length with h1 | h1
      · exact List.length_eq_zero_iff.1 h1
      · obtain ⟨_, _, e, _⟩ := hv.cell (List.getElem?_eq_getElem h1); cases e
    subst hz
    clear hv
    go_enter Try.func80, Try.ntmps80
    go_wp2
    go_ret
    exact ⟨_, rfl, Mine.nil _ _⟩
  | some a =>
    have hs : Src Try.prog 1 49 (.slice (some a) L.length c) (strs L).length (strs L) (w.alloc (.cells #[] 9)) := (hv.kept ((Kept.refl (fun _ => False) w).alloc (.cells #[] 9))).src Try.underlying49 (strs_one L)
    have hown0 : Mine w (w.alloc (.cells #[] 9)) 9 (.slice (some ⟨w.heap.size, 0, none⟩) 0 0) (strs []) :=
      ⟨⟨rfl, .inr ⟨w.heap.size, 0, #[], rfl, Nat.le_refl _, heap_alloc_new w _, Nat.le_refl _, by unfold maxLen; omega, rfl, rfl⟩⟩, (Kept.refl _ _).alloc _⟩
    have HO := Lib.hid hown0
    obtain ⟨n, hn⟩ : ∃ n, n = L.length := ⟨_, rfl⟩
    rw [← hn] at hs ⊢
    have HS := Lib.hid hs
    have HL := Lib.hid hl
    clear hv hown0 hs hn hl
    go_enter Try.func80, Try.ntmps80
    go_wp2_with (at_builtin; refine wpList_mineT rfl (.tmp 5) (.tmp 6) rfl w _ [] rfl HO.out _ L rfl HS.out (by have := HL.out; simp; omega) ?_; intro v' w1 hm hk _; have HM := Lib.hid hm; clear hm hk)
    go_ret
    exact ⟨_, rfl, by have := HM.out; simpa using this⟩
theorem tall_any (tb : Nat) (L : List ByteArray) (w : World) (hT : TabAt w tb L) (hl : L.length ≤ 1000000) :
    Calls Try.prog 37 #[.pointer (some ⟨tb, 0, none⟩)] w fun e w' => ∃ v, e = .returned v ∧ Mine w w' 9 v (strs L) := by
  obtain ⟨ao, cp, hb, hs, _⟩ := hT
  have c0 : w.cell? ⟨tb, 0, none⟩ = some (.slice ao L.length cp) := by rw [cell_of_row _ _ _ _ _ _ hb]; rfl
  have HC := Lib.hid (sclone_any ao cp L w hs hl)
  clear hb hs hl
  go_enter Try.func37, Try.ntmps37
  go_wp2_with fail
  refine HC.out.mono ?_
  rintro e w1 ⟨v, rfl, hm⟩
  have HM := Lib.hid hm
  clear hm
  go_wp2
  go_ret
  exact ⟨_, rfl, HM.out⟩
theorem ownsRow_cap {w : World} {B : Nat} {E : TypeId} {ao : Option Addr} {n c : Nat} {xs : List Value} (h : w.ownsRow B E 1 (.slice ao n c) n xs) : n ≤ c := by
  rcases h.2 with ⟨e, h0⟩ | ⟨g, cap, cur, e, _, _, hc, _⟩
  · injection e with _ h1 h2
    omega
  · injection e with _ _ e3
    subst e3
    exact hc
end Go.Proofs.Ytkidbbmdlmnokaa
