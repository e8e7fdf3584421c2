/- Rows cut at a place; a thing put at its place in a rising row. -/
import Derived.Test.YtoppcohgjmghdaaS0
import Derived.Test.YtoppcohgjmghdaaGR
namespace Go.Proofs.Ytoppcohgjmghdaa
open Go.RowKit

theorem run_cutHr {P : Program} {t E : TypeId} {i : TypeInfo} (ht : P.underlying t = some (.slice E)) (hi : P.info? E = some i) (a : Option Addr) (len cap h : Nat) (hhi : h ≤ cap) (w : World) :
    (Instr.slice t (.slice a len cap) none (some (.int .i64 (h : Int))) none).run P w = .ok (.slice a h cap) w := by
  have he : P.elem t = E := by simp [Program.elem, ht]
  rw [run_slice_h w t a len cap (by rw [he]; exact ht) .i64 h (by omega) (by omega), he]
  have e : (a.map fun x => x.add 0) = a := by cases a <;> simp [add_zero']
  simp [sizeOf, typeInfo, hi, sliced, e]
theorem run_cutHrAt {P : Program} {t E : TypeId} {i : TypeInfo} (ht : P.underlying t = some (.slice E)) (hi : P.info? E = some i) (a : Option Addr) (len cap h : Nat) (hhi : h ≤ cap) (w : World) :
    (Instr.sliceAt t (.slice a len cap) none (some (.int .i64 (h : Int))) none).run P w = .ok (.slice a h cap) w := by
  have he : P.elem t = E := by simp [Program.elem, ht]
  rw [run_sliceAt_slice w t _ _ _ _ (by rw [he]; exact ht)]
  exact run_cutHr ht hi a len cap h hhi w
theorem run_cutLr {P : Program} {t E : TypeId} {i : TypeInfo} {s : Nat} (ht : P.underlying t = some (.slice E)) (hi : P.info? E = some i) (hs : i.size = s) (a : Option Addr) (len cap lo : Nat) (hlo : lo ≤ len) (w : World) :
    (Instr.slice t (.slice a len cap) (some (.int .i64 (lo : Int))) none none).run P w = .ok (.slice (if cap = lo then a else a.map (·.add (lo * s))) (len - lo) (cap - lo)) w := by
  have he : P.elem t = E := by simp [Program.elem, ht]
  rw [run_slice_l w t a len cap (by rw [he]; exact ht) .i64 lo (by omega) (by omega), he]
  simp [sizeOf, typeInfo, hi, hs, sliced]
theorem run_cutLrAt {P : Program} {t E : TypeId} {i : TypeInfo} {s : Nat} (ht : P.underlying t = some (.slice E)) (hi : P.info? E = some i) (hs : i.size = s) (a : Option Addr) (len cap lo : Nat) (hlo : lo ≤ len) (w : World) :
    (Instr.sliceAt t (.slice a len cap) (some (.int .i64 (lo : Int))) none none).run P w = .ok (.slice (if cap = lo then a else a.map (·.add (lo * s))) (len - lo) (cap - lo)) w := by
  have he : P.elem t = E := by simp [Program.elem, ht]
  rw [run_sliceAt_slice w t _ _ _ _ (by rw [he]; exact ht)]
  exact run_cutLr ht hi hs a len cap lo hlo w
theorem GAt.dropS {α : Type} {c : α → List Value} {sz : Nat} {W : World} {ao : Option Addr} {L : List α} {cap : Nat} (h : GAt c sz W ao L) (lo : Nat) (hc : L.length ≤ cap) : GAt c sz W (if cap = lo then ao else ao.map (·.add (lo * sz))) (L.drop lo) := by
  intro h0
  rw [List.length_drop] at h0
  obtain ⟨g, o, rfl, hr⟩ := h (by omega)
  rw [if_neg (by omega)]
  refine ⟨g, o + lo * sz, ?_, fun i p hi j u hu => ?_⟩
  · show some ((⟨g, o, none⟩ : Addr).add (lo * sz)) = _
    have : ((⟨g, o, none⟩ : Addr).add (lo * sz)) = ⟨g, o + lo * sz, none⟩ := by unfold Addr.add; split <;> simp_all
    rw [this]
  · rw [List.getElem?_drop] at hi
    have := hr (lo + i) p hi j u hu
    rw [Nat.add_mul] at this
    rw [show o + lo * sz + i * sz + j = o + (lo * sz + i * sz) + j by omega]
    exact this
theorem asc_get {α : Type} {X : List (ByteArray × α)} (h : Asc X) {i j : Nat} {p q : ByteArray × α} (hij : i < j) (hp : X[i]? = some p) (hq : X[j]? = some q) : ltN p.1 q.1 = true := by
  obtain ⟨h1, h2⟩ := List.getElem?_eq_some_iff.1 hp
  obtain ⟨h3, h4⟩ := List.getElem?_eq_some_iff.1 hq
  have := List.pairwise_iff_getElem.1 h i j h1 h3 hij
  rw [h2, h4] at this
  exact this
theorem put_split {α : Type} {X : List (ByteArray × α)} (hA : Asc X) {s : ByteArray} (f : α) (hn : ∀ p ∈ X, p.1 ≠ s) {k : Nat} (h1 : ∀ j p, k ≤ j → X[j]? = some p → ltN s p.1 = true) (h2 : k = 0 ∨ ∃ p, X[k - 1]? = some p ∧ ltN s p.1 = false) :
    X.take k ++ (s, f) :: X.drop k = putS X s f := by
  have hlow : ∀ p ∈ X.take k, ltN p.1 s = true := by
    intro p hp
    obtain ⟨j, hj⟩ := List.mem_iff_getElem?.1 hp
    rw [List.getElem?_take] at hj
    split at hj
    · rename_i hjk
      rcases h2 with h2 | ⟨q, hq, hqs⟩
      · omega
      · have hqn := ltN_tri (hn q (List.mem_of_getElem? hq)).symm hqs
        by_cases e : j = k - 1
        · rw [e, hq] at hj
          injection hj with hj
          rw [← hj]
          exact hqn
        · exact ltN_trans (asc_get hA (by omega) hj hq) hqn
    · cases hj
  have hhigh : ∀ p ∈ X.drop k, ltN s p.1 = true := by
    intro p hp
    obtain ⟨j, hj⟩ := List.mem_iff_getElem?.1 hp
    rw [List.getElem?_drop] at hj
    exact h1 (k + j) p (by omega) hj
  refine asc_ext ?_ (putS_asc hA s f) (fun t => ?_)
  · unfold Asc
    rw [List.pairwise_append]
    refine ⟨List.Pairwise.sublist (List.take_sublist _ _) hA, List.pairwise_cons.2 ⟨hhigh, List.Pairwise.sublist (List.drop_sublist _ _) hA⟩, fun p hp q hq => ?_⟩
    rcases List.mem_cons.1 hq with e | e
    · rw [e]; exact hlow p hp
    · exact ltN_trans (hlow p hp) (hhigh q e)
  · rw [getM_put, getM_append, getM]
    by_cases e : s = t
    · rw [if_pos e, if_pos e, ← e, getM_none.2 (fun p hp => hn p (List.mem_of_mem_take hp))]
      rfl
    · rw [if_neg e, if_neg e, ← getM_append, List.take_append_drop]
theorem putS_delS {α : Type} {L : List (ByteArray × α)} (hA : Asc L) (s : ByteArray) (f : α) : putS (delM L s) s f = putS L s f := by
  refine asc_ext (putS_asc (delM_asc hA s) s f) (putS_asc hA s f) (fun t => ?_)
  rw [getM_put, getM_put, getM_del]
  by_cases e : s = t
  · rw [if_pos e, if_pos e]
  · rw [if_neg e, if_neg e, if_neg e]
end Go.Proofs.Ytoppcohgjmghdaa
