/- A map keyed by texts, as a list: ranged over. -/
import Derived.Test.YtoppcohgjmghdaaMP
import Derived.Maps.RangeWalk
import Derived.Sort.KeysCollected
namespace Go.Proofs.Ytoppcohgjmghdaa
open Go.RowKit Go.Maps Go.Sort Go.MapKept
open Go.WideElems (Fit rd rg pl rd_key rd_mk rg_of)
open Go.WideMaps (keyOf_string_mk)

section
variable {P : Program} {w w' : World} {b : Nat} {L : List (ByteArray × Value)} {t k e : TypeId}
def keyL (s : ByteArray) : Lit := .string s.data.toList
def heldR (v : Value) : Option (DataW Value × List MemPlace) := some (.held v, [])
theorem MapIs.ownsH (h : MapIs w b L) (hk : P.underlying k = some .string) : ∃ D0 : DataW Value, w.ownsMap P k heldR b L.length D0 ∧ ∃ es : List (Lit × DataW Value), D0 = .map es ∧ es.Perm (L.map fun p => (keyL p.1, .held p.2)) := by
  obtain ⟨es, clock, hb, h1, h2⟩ := h.ex
  have hl : es.size = L.length := by simpa using congrArg List.length h2
  have hr : ∀ x ∈ es.toList, ∃ p ∈ L, x.key = .string p.1 := by
    intro x hx
    obtain ⟨j, hj⟩ := List.mem_iff_getElem?.1 hx
    obtain ⟨p, hp, h3, _⟩ := entry_get h2 hj
    exact ⟨p, List.mem_of_getElem? hp, h3⟩
  have F : Fit P k heldR es clock := ⟨by rw [hl]; exact h.len, h1, fun x hx => by
    obtain ⟨p, hp, h3⟩ := hr x hx
    refine ⟨(.string p.1.data.toList, .held x.val), ?_⟩
    simp [rd, heldR, h3, keyOf_string_mk hk (h.keys p hp)]⟩
  refine ⟨_, ⟨es, clock, hb, F, by omega, rfl⟩, _, rfl, (WideShapes.sorted_perm _).trans ?_⟩
  have e1 : es.toList.map (rg P k heldR) = L.map fun p => (keyL p.1, .held p.2) := by
    apply List.ext_getElem?
    intro j
    rw [List.getElem?_map, List.getElem?_map]
    cases hj : es.toList[j]? with
    | none =>
      have : L[j]? = none := by
        rw [List.getElem?_eq_none_iff] at hj ⊢
        simp at hj
        omega
      rw [this]
      rfl
    | some e0 =>
      obtain ⟨p, hp, h3, h4⟩ := entry_get h2 hj
      rw [hp]
      simp [rg, rd, heldR, keyL, h3, h4, keyOf_string_mk hk (h.keys p (List.mem_of_getElem? hp))]
  rw [e1]
theorem at_key {H : Type} {es : List (Lit × DataW H)} {kl : Lit} {y : DataW H} (h : ∀ zd, (DataW.map es).atKey kl zd = y) : ∃ p ∈ es, p.1 = kl ∧ p.2 = y := by
  cases hx : es.find? (fun p => p.1.sameKey kl) with
  | none =>
    have e1 : (DataW.map es).atKey kl .nil = .nil := by show (match es.find? (fun p => p.1.sameKey kl) with | some p => p.2 | none => _) = _; rw [hx]
    have e2 : (DataW.map es).atKey kl (.lit (.bool true)) = .lit (.bool true) := by show (match es.find? (fun p => p.1.sameKey kl) with | some p => p.2 | none => _) = _; rw [hx]
    rw [h] at e1 e2
    rw [e1] at e2
    cases e2
  | some p =>
    have e1 : (DataW.map es).atKey kl .nil = p.2 := by show (match es.find? (fun p => p.1.sameKey kl) with | some p => p.2 | none => _) = _; rw [hx]
    rw [h] at e1
    exact ⟨p, List.mem_of_find?_eq_some hx, WideAt.sameKey_eq (a := p.1) (b := kl) (by have := List.find?_some hx; exact this), e1.symm⟩
/-- Block r ranges over the map in block b, whose entries are those of L; left: which keys are still to come. -/
def RangesL (P : Program) (k : TypeId) (w : World) (b r : Nat) (L : List (ByteArray × Value)) (left : Lit → Bool) (cnt : Nat) : Prop :=
  ∃ es : List (Lit × DataW Value), es.Perm (L.map fun p => (keyL p.1, .held p.2)) ∧ w.ranges P k heldR b r L.length (.map es) left cnt
theorem wpList_range_list {ops : Array Oper} {rest : List Oper} {o : Oper} {a : Act} {Q : Exit → Act → World → Prop} (hg : o.guard = none) (m : Operand) (t : TypeId) (hop : o.op = Op.range t m) (k e : TypeId) (hk : P.underlying k = some .string) (ht : P.underlying t = some (.map k e))
    (b : Nat) (hm : a.eval m = .map (some b)) (h : MapIs w b L)
    (hK : ∀ w' left cnt, RangesL P k w' b w.heap.size L left cnt → (∀ p ∈ L, left (keyL p.1) = true) → Kept (fun _ => False) w w' → w'.heap.size = w.heap.size + 1 → wpList P ops Q rest (a.put o.dst (.pointer (some ⟨w.heap.size, 0, none⟩))) w') :
    wpList P ops Q (o :: rest) a w := by
  obtain ⟨D0, hown, es, hD, hp⟩ := h.ownsH hk
  subst hD
  refine wpList_range_own w hg m t hop k e (string_keyed hk) ht heldR b L.length _ hm hown ?_
  intro w' h1 h2 h3
  refine hK w' _ _ ⟨es, hp, h1⟩ (fun p hp' => ?_) ((Kept.refl _ w).grown h2 (fun j e => by cases e)) h3
  have hmem : (keyL p.1, DataW.held p.2) ∈ es := hp.symm.mem_iff.1 (List.mem_map.2 ⟨p, hp', rfl⟩)
  exact List.any_eq_true.2 ⟨_, hmem, by unfold keyL Lit.sameKey; simp⟩
theorem wpList_next_list {ops : Array Oper} {rest : List Oper} {o : Oper} {a : Act} {Q : Exit → Act → World → Prop} (hg : o.guard = none) (it : Operand) (hop : o.op = Op.next it false) (k : TypeId) (hk : P.underlying k = some .string)
    (b r : Nat) (left : Lit → Bool) (cnt : Nat) (hit : a.eval it = .pointer (some ⟨r, 0, none⟩)) (h : RangesL P k w b r L left cnt)
    (hDone : (∀ kl, left kl = false) → wpList P ops Q rest (a.put o.dst (.tuple #[.bool false])) w)
    (hMore : ∀ p ∈ L, ∀ (w' : World) (cnt' : Nat), left (keyL p.1) = true → RangesL P k w' b r L (fun z => left z && !z.sameKey (keyL p.1)) cnt' → cnt' < cnt → Kept (fun j => j = r) w w' → w'.heap.size = w.heap.size →
      (Instr.entry (.pointer (some ⟨r, 0, none⟩))).run P w' = .ok (.tuple #[.string p.1, p.2]) w' → wpList P ops Q rest (a.put o.dst (.tuple #[.bool true, .string p.1, p.2])) w') :
    wpList P ops Q (o :: rest) a w := by
  obtain ⟨es, hp, hrg⟩ := h
  refine wpList_next_ranges w hg it hop k (string_keyed hk) heldR encStr id (fun key kl hkey => by obtain ⟨x, hx, _⟩ := Maps.keyOf_str hk hkey; exact ⟨x, hx⟩) (fun v y _ => ⟨v, rfl⟩) b r L.length _ left cnt hit hrg (fun _ hl => hDone hl) ?_
  intro x c kl y w' cnt' hkey hlk hv hat hrg' hlt hgr hsz hen
  obtain ⟨x', ex, rfl, _⟩ := Maps.keyOf_str hk hkey
  obtain rfl : x = x' := encStr_inj ex
  obtain ⟨q, hq, hq1, hq2⟩ := at_key hat
  obtain ⟨p, hpL, hpq⟩ := List.mem_map.1 (hp.mem_iff.1 hq)
  unfold heldR at hv
  injection hv with hv
  subst hv
  have e1 : keyL p.1 = .string x := by rw [← hq1, ← hpq]
  have e2 : DataW.held p.2 = DataW.held c := by rw [← hpq] at hq2; exact hq2
  injection e2 with e2
  have e3 : encStr x = .string p.1 := by
    unfold keyL at e1
    injection e1 with e1
    rw [← e1]
  rw [← e1] at hlk hrg'
  rw [e3] at hen ⊢
  dsimp only [id] at hen ⊢
  rw [← e2] at hen ⊢
  exact hMore p hpL w' cnt' hlk ⟨es, hp, hrg'⟩ hlt ((Kept.refl _ w).grown hgr (fun j e _ => by injection e with e; exact e.symm)) hsz hen
end
end Go.Proofs.Ytoppcohgjmghdaa
