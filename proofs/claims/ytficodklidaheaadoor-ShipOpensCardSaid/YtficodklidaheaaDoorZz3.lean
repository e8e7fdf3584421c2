/- Texts put together: MP, BO. -/
import Derived.Test.YtficodklidaheaaDoorZz2
import Derived.Maps.Own
import Derived.Maps.OwnSet
import Derived.StringKeys
import Derived.Test.YtficodklidaheaaDoorZz1
/- Maps keyed by texts, as lists of keys and values. -/
namespace Go.Proofs.YtficodklidaheaaDoor
open Go.RowKit Go.Maps Go.MapKept
open Go.WideElems (Fit rd rg pl rd_key rd_mk rg_of)
open Go.WideMaps (keyOf_string_mk)

section
variable {α β : Type}
/-- What stands at a key. -/
def getM : List (ByteArray × α) → ByteArray → Option α
  | [], _ => none
  | p :: r, s => if p.1 = s then some p.2 else getM r s
/-- A thing put at a key. -/
def setM : List (ByteArray × α) → ByteArray → α → List (ByteArray × α)
  | [], s, v => [(s, v)]
  | p :: r, s, v => if p.1 = s then (s, v) :: r else p :: setM r s v
/-- Without a key. -/
def delM (L : List (ByteArray × α)) (s : ByteArray) : List (ByteArray × α) := L.filter fun p => decide (p.1 ≠ s)
def mapM (f : α → β) (L : List (ByteArray × α)) : List (ByteArray × β) := L.map fun p => (p.1, f p.2)
theorem getM_map (f : α → β) : ∀ (L : List (ByteArray × α)) (s : ByteArray), getM (mapM f L) s = (getM L s).map f
  | [], _ => rfl
  | p :: r, s => by
    have := getM_map f r s
    unfold mapM at this
    unfold mapM
    rw [List.map_cons]
    unfold getM
    by_cases h : p.1 = s
    · simp [h]
    · simp [h, this]
theorem setM_map (f : α → β) : ∀ (L : List (ByteArray × α)) (s : ByteArray) (v : α), setM (mapM f L) s (f v) = mapM f (setM L s v)
  | [], _, _ => rfl
  | p :: r, s, v => by
    have := setM_map f r s v
    unfold mapM at this
    unfold mapM
    rw [List.map_cons]
    unfold setM
    by_cases h : p.1 = s
    · simp [h]
    · simp [h, this]
theorem delM_map (f : α → β) (L : List (ByteArray × α)) (s : ByteArray) : delM (mapM f L) s = mapM f (delM L s) := by
  unfold delM mapM
  rw [List.filter_map]
  rfl
theorem getM_none {L : List (ByteArray × α)} {s : ByteArray} : getM L s = none ↔ ∀ p ∈ L, p.1 ≠ s := by
  induction L with
  | nil => simp [getM]
  | cons p r ih =>
    unfold getM
    by_cases h : p.1 = s
    · simp [h]
    · simp [h, ih]
theorem getM_mem {L : List (ByteArray × α)} {s : ByteArray} {v : α} (h : getM L s = some v) : (s, v) ∈ L := by
  induction L with
  | nil => cases h
  | cons p r ih =>
    unfold getM at h
    by_cases e : p.1 = s
    · rw [if_pos e] at h
      injection h with h
      subst e h
      exact List.mem_cons_self ..
    · rw [if_neg e] at h
      exact List.mem_cons_of_mem _ (ih h)
theorem getM_of {L : List (ByteArray × α)} (hn : L.Pairwise fun p q => p.1 ≠ q.1) {s : ByteArray} {v : α} (h : (s, v) ∈ L) : getM L s = some v := by
  induction L with
  | nil => cases h
  | cons p r ih =>
    obtain ⟨h1, h2⟩ := List.pairwise_cons.1 hn
    unfold getM
    rcases List.mem_cons.1 h with e | e
    · rw [← e]; simp
    · rw [if_neg (h1 _ e), ih h2 e]
theorem getM_set (L : List (ByteArray × α)) (s : ByteArray) (v : α) (t : ByteArray) : getM (setM L s v) t = if s = t then some v else getM L t := by
  induction L with
  | nil => simp [setM, getM]
  | cons p r ih =>
    unfold setM
    by_cases h : p.1 = s
    · rw [if_pos h]
      unfold getM
      by_cases e : s = t
      · simp [e]
      · simp [e, h]
    · rw [if_neg h]
      unfold getM
      by_cases e : p.1 = t
      · have : ¬ s = t := fun x => h (e.trans x.symm)
        simp [e, this]
      · simp [e, ih]
theorem getM_del (L : List (ByteArray × α)) (s t : ByteArray) : getM (delM L s) t = if s = t then none else getM L t := by
  induction L with
  | nil => simp [delM, getM]
  | cons p r ih =>
    unfold delM at ih ⊢
    rw [List.filter_cons]
    by_cases h : p.1 = s
    · simp only [h, ne_eq, not_true_eq_false, decide_false, Bool.false_eq_true, if_false]
      rw [ih]
      by_cases e : s = t
      · simp [e]
      · simp [e, getM, h]
    · simp only [ne_eq, h, not_false_eq_true, decide_true, if_true]
      unfold getM
      rw [ih]
      by_cases e : s = t
      · have : ¬ p.1 = t := fun x => h (x.trans e.symm)
        simp [e, this]
      · simp [e]
theorem setM_mem {L : List (ByteArray × α)} {s : ByteArray} {v : α} {p : ByteArray × α} (h : p ∈ setM L s v) : p = (s, v) ∨ p ∈ L := by
  induction L with
  | nil => exact .inl (by simpa [setM] using h)
  | cons q r ih =>
    unfold setM at h
    by_cases e : q.1 = s
    · rw [if_pos e] at h
      rcases List.mem_cons.1 h with h | h
      · exact .inl h
      · exact .inr (List.mem_cons_of_mem _ h)
    · rw [if_neg e] at h
      rcases List.mem_cons.1 h with h | h
      · exact .inr (by rw [h]; exact List.mem_cons_self ..)
      · exact (ih h).imp id (List.mem_cons_of_mem _)
theorem setM_len (L : List (ByteArray × α)) (s : ByteArray) (v : α) : (setM L s v).length = if getM L s = none then L.length + 1 else L.length := by
  induction L with
  | nil => simp [setM, getM]
  | cons p r ih =>
    unfold setM getM
    by_cases h : p.1 = s
    · simp [h]
    · simp only [h, if_false, List.length_cons, ih]
      split <;> rfl
/-- A key that isn't there comes last. -/
theorem setM_new {L : List (ByteArray × α)} {s : ByteArray} {v : α} (h : ∀ p ∈ L, p.1 ≠ s) : setM L s v = L ++ [(s, v)] := by
  induction L with
  | nil => rfl
  | cons p r ih =>
    unfold setM
    rw [if_neg (h p (List.mem_cons_self ..)), ih (fun q hq => h q (List.mem_cons_of_mem _ hq))]
    rfl
/-- A key that is there stays where it is. -/
theorem setM_at {L : List (ByteArray × α)} (hn : L.Pairwise fun p q => p.1 ≠ q.1) {s : ByteArray} {v u : α} {j : Nat} (h : L[j]? = some (s, u)) : setM L s v = L.set j (s, v) := by
  induction L generalizing j with
  | nil => simp at h
  | cons p r ih =>
    obtain ⟨h1, h2⟩ := List.pairwise_cons.1 hn
    unfold setM
    cases j with
    | zero =>
      simp only [List.getElem?_cons_zero, Option.some.injEq] at h
      subst h
      simp
    | succ j =>
      rw [List.getElem?_cons_succ] at h
      rw [if_neg (h1 _ (List.mem_of_getElem? h)), ih h2 h]
      rfl
theorem delM_at {L : List (ByteArray × α)} (hn : L.Pairwise fun p q => p.1 ≠ q.1) {s : ByteArray} {u : α} {j : Nat} (h : L[j]? = some (s, u)) : delM L s = L.eraseIdx j := by
  induction L generalizing j with
  | nil => simp at h
  | cons p r ih =>
    obtain ⟨h1, h2⟩ := List.pairwise_cons.1 hn
    unfold delM at ih ⊢
    rw [List.filter_cons]
    cases j with
    | zero =>
      simp only [List.getElem?_cons_zero, Option.some.injEq] at h
      subst h
      simp only [ne_eq, not_true_eq_false, decide_false, Bool.false_eq_true, if_false, List.eraseIdx_cons_zero]
      exact List.filter_eq_self.2 (fun q hq => by simpa using (h1 q hq).symm)
    | succ j =>
      rw [List.getElem?_cons_succ] at h
      have := h1 _ (List.mem_of_getElem? h)
      simp only [ne_eq] at this
      simp only [ne_eq, this, not_false_eq_true, decide_true, if_true, List.eraseIdx_cons_succ]
      rw [← ih h2 h]
theorem setM_pair {L : List (ByteArray × α)} (hn : L.Pairwise fun p q => p.1 ≠ q.1) (s : ByteArray) (v : α) : (setM L s v).Pairwise fun p q => p.1 ≠ q.1 := by
  induction L with
  | nil => simp [setM]
  | cons p r ih =>
    obtain ⟨h1, h2⟩ := List.pairwise_cons.1 hn
    unfold setM
    by_cases h : p.1 = s
    · rw [if_pos h]
      exact List.pairwise_cons.2 ⟨fun q hq => by have := h1 q hq; rwa [h] at this, h2⟩
    · rw [if_neg h]
      refine List.pairwise_cons.2 ⟨fun q hq => ?_, ih h2⟩
      rcases setM_mem hq with e | e
      · rw [e]; exact h
      · exact h1 q e
theorem delM_pair {L : List (ByteArray × α)} (hn : L.Pairwise fun p q => p.1 ≠ q.1) (s : ByteArray) : (delM L s).Pairwise fun p q => p.1 ≠ q.1 := hn.filter _
theorem mapM_pair (f : α → β) {L : List (ByteArray × α)} (hn : L.Pairwise fun p q => p.1 ≠ q.1) : (mapM f L).Pairwise fun p q => p.1 ≠ q.1 := by
  unfold mapM
  rw [List.pairwise_map]
  exact hn
theorem delM_mem {L : List (ByteArray × α)} {s : ByteArray} {p : ByteArray × α} (h : p ∈ delM L s) : p ∈ L ∧ p.1 ≠ s := by
  have := List.mem_filter.1 h
  exact ⟨this.1, by simpa using this.2⟩
end

/-- Block b is a map whose entries are those of L. -/
structure MapIs (w : World) (b : Nat) (L : List (ByteArray × Value)) : Prop where
  ex : ∃ es clock, w.heap[b]? = some (.map es clock) ∧ Stamped es clock ∧ es.toList.map (fun e => (e.key, e.val)) = L.map (fun p => (Value.string p.1, p.2))
  len : L.length ≤ maxLen
  keys : ∀ p ∈ L, p.1.size ≤ maxLen
  pair : L.Pairwise fun p q => p.1 ≠ q.1

section
variable {P : Program} {w w' : World} {b : Nat} {L : List (ByteArray × Value)} {t k e : TypeId}
theorem MapIs.kept {S : Nat → Prop} (h : MapIs w b L) (hk : Kept S w w') (hn : ¬ S b) : MapIs w' b L := by
  obtain ⟨es, clock, hb, h1, h2⟩ := h.ex
  exact ⟨⟨es, clock, hk.same hb hn, h1, h2⟩, h.len, h.keys, h.pair⟩
theorem MapIs.lt (h : MapIs w b L) : b < w.heap.size := by
  obtain ⟨es, clock, hb, _⟩ := h.ex
  exact (Array.getElem?_eq_some_iff.1 hb).1
theorem MapIs.made (w : World) : MapIs (w.alloc (.map #[] 0)) w.heap.size [] := ⟨⟨#[], 0, (MapKept.heap_alloc w _).1, stamped_empty 0, rfl⟩, by simp [maxLen], by simp, List.Pairwise.nil⟩
theorem MapIs.notCells (h : MapIs w b L) {cs : Array Value} {T : TypeId} {fr : Nat × Nat} {j : Nat} (hj : w.heap[j]? = some (.cells cs T fr)) : j ≠ b := by
  intro x
  obtain ⟨es, clock, hb, _⟩ := h.ex
  rw [x, hb] at hj
  cases hj
/-- An entry of the array is one of the list. -/
theorem entry_get {es : Array MapEntry} (h2 : es.toList.map (fun e => (e.key, e.val)) = L.map (fun p => (Value.string p.1, p.2))) {j : Nat} {e0 : MapEntry} (hj : es.toList[j]? = some e0) : ∃ p, L[j]? = some p ∧ e0.key = .string p.1 ∧ e0.val = p.2 := by
  have h := congrArg (fun l => l[j]?) h2
  simp only [List.getElem?_map, hj, Option.map_some] at h
  cases hp : L[j]? with
  | none => rw [hp] at h; simp at h
  | some p =>
    rw [hp] at h
    simp only [Option.map_some, Option.some.injEq, Prod.mk.injEq] at h
    exact ⟨p, rfl, h.1, h.2⟩
theorem entry_keys (hk : P.underlying k = some .string) {es : Array MapEntry} (h2 : es.toList.map (fun e => (e.key, e.val)) = L.map (fun p => (Value.string p.1, p.2))) (hs : ∀ p ∈ L, p.1.size ≤ maxLen) : ∀ e ∈ es.toList, ∃ l, keyOf P k e.key = some l := by
  intro e he
  obtain ⟨j, hj⟩ := List.mem_iff_getElem?.1 he
  obtain ⟨p, hp, h3, _⟩ := entry_get h2 hj
  rw [h3]
  exact ⟨_, keyOf_string_mk hk (hs p (List.mem_of_getElem? hp))⟩
theorem entry_none {es : Array MapEntry} (h2 : es.toList.map (fun e => (e.key, e.val)) = L.map (fun p => (Value.string p.1, p.2))) {s : ByteArray} (h : ∀ e ∈ es.toList, e.key ≠ .string s) : ∀ p ∈ L, p.1 ≠ s := by
  intro p hp x
  obtain ⟨j, hj⟩ := List.mem_iff_getElem?.1 hp
  have hh := congrArg (fun l => l[j]?) h2
  simp only [List.getElem?_map, hj, Option.map_some] at hh
  cases he : es.toList[j]? with
  | none => rw [he] at hh; simp at hh
  | some e0 =>
    rw [he] at hh
    simp only [Option.map_some, Option.some.injEq, Prod.mk.injEq] at hh
    exact h e0 (List.mem_of_getElem? he) (by rw [hh.1, x])
/-- What a look-up answers. -/
def lookV (c : Bool) (z : Value) : Option Value → Value
  | some v => if c then .tuple #[v, .bool true] else v
  | none => if c then .tuple #[z, .bool false] else z
theorem MapIs.lookup (h : MapIs w b L) (hk : P.underlying k = some .string) (ht : P.underlying t = some (.map k e)) {z : Value} (hz : (zeroValue e).run P w = .ok z w) {s : ByteArray} (hs : s.size ≤ maxLen) (c : Bool) :
    (Instr.lookup t (.map (some b)) (.string s) c).run P w = .ok (lookV c z (getM L s)) w := by
  obtain ⟨es, clock, hb, h1, h2⟩ := h.ex
  have K := string_keyed hk
  have hkey := keyOf_string_mk hk hs
  rcases K.find w hkey es.toList (entry_keys hk h2 h.keys) with ⟨f1, f2⟩ | ⟨j, e0, f1, f2, f3⟩
  · rw [getM_none.2 (entry_none h2 f2)]
    simp [Instr.lookup, run_underlying ht, MapKept.run_getObj_map hb, K.check w _ hkey, f1, hz, Result.andThen, lookV]
  · obtain ⟨p, hp, h3, h4⟩ := entry_get h2 f2
    rw [f3] at h3
    injection h3 with h3
    have : getM L s = some p.2 := getM_of h.pair (by rw [h3]; exact List.mem_of_getElem? hp)
    rw [this]
    simp [Instr.lookup, run_underlying ht, MapKept.run_getObj_map hb, K.check w _ hkey, f1, Result.andThen, lookV, h4]
theorem kept_setBlock {w : World} {b : Nat} {o : Obj} {es : Array MapEntry} {clock : Nat} (hb : w.heap[b]? = some (.map es clock)) : Kept (fun k => k = b) w (ChangeMaps.setBlock w b o) :=
  ⟨rfl, rfl, rfl, by simp [ChangeMaps.setBlock], fun i _ hi => ChangeMaps.heap_setBlock_other hb _ (fun x => hi x)⟩
theorem MapIs.update (h : MapIs w b L) (hk : P.underlying k = some .string) (ht : P.underlying t = some (.map k e)) {s : ByteArray} (hs : s.size ≤ maxLen) (v : Value) (hl : L.length < maxLen) :
    ∃ w', (Instr.mapUpdate t (.map (some b)) (.string s) v).run P w = .ok () w' ∧ MapIs w' b (setM L s v) ∧ Kept (fun k => k = b) w w' := by
  obtain ⟨es, clock, hb, h1, h2⟩ := h.ex
  have K := string_keyed hk
  have hkey := keyOf_string_mk hk hs
  have hlen : (setM L s v).length ≤ maxLen := by rw [setM_len]; split <;> omega
  have hkeys : ∀ p ∈ setM L s v, p.1.size ≤ maxLen := fun p hp => by
    rcases setM_mem hp with x | x
    · rw [x]; exact hs
    · exact h.keys p x
  rcases K.find w hkey es.toList (entry_keys hk h2 h.keys) with ⟨f1, f2⟩ | ⟨j, e0, f1, f2, f3⟩
  · refine ⟨ChangeMaps.setBlock w b (.map (es.push ⟨.string s, v, clock⟩) (clock + 1)), ?_, ⟨⟨_, _, ChangeMaps.heap_setBlock_same hb _, stamped_push h1 f2, ?_⟩, hlen, hkeys, setM_pair h.pair s v⟩, kept_setBlock hb⟩
    · simp [Instr.mapUpdate, run_underlying ht, MapKept.run_getObj_map hb, K.check w false hkey, f1, MapKept.run_setObj_map _ hb, Result.andThen, ChangeMaps.setBlock]
    · rw [setM_new (entry_none h2 f2), Array.toList_push, List.map_append, h2, List.map_append]
      rfl
  · obtain ⟨p, hp, h3, h4⟩ := entry_get h2 f2
    rw [f3] at h3
    injection h3 with h3
    have hj : es[j]? = some e0 := by simpa using f2
    have hp' : L[j]? = some (s, p.2) := by rw [hp, h3]
    refine ⟨ChangeMaps.setBlock w b (.map (es.modify j (fun e' => { e' with key := .string s, val := v })) clock), ?_, ⟨⟨_, _, ChangeMaps.heap_setBlock_same hb _, stamped_modify h1 _ _ (fun _ _ => rfl) (fun e' _ he' => ?_), ?_⟩, hlen, hkeys, setM_pair h.pair s v⟩, kept_setBlock hb⟩
    · simp [Instr.mapUpdate, run_underlying ht, MapKept.run_getObj_map hb, K.check w false hkey, f1, hj, f3, K.stays w hkey, MapKept.run_setObj_map _ hb, Result.andThen, ChangeMaps.setBlock]
    · rw [hj] at he'; cases he'; exact f3.symm
    · rw [setM_at h.pair hp', Array.toList_modify, ChangeMaps.modify_eq_set _ _ _ _ f2, List.map_set, h2, List.map_set]
theorem MapIs.delete (h : MapIs w b L) (hk : P.underlying k = some .string) (ht : P.underlying t = some (.map k e)) {s : ByteArray} (hs : s.size ≤ maxLen) (ty : TypeId) :
    ∃ w', (Builtin.delete_ #[t, k] ty #[.map (some b), .string s]).run P w = .ok (.tuple #[]) w' ∧ MapIs w' b (delM L s) ∧ Kept (fun k => k = b) w w' := by
  obtain ⟨es, clock, hb, h1, h2⟩ := h.ex
  have K := string_keyed hk
  have hkey := keyOf_string_mk hk hs
  have hlen : (delM L s).length ≤ maxLen := Nat.le_trans (List.length_filter_le _ _) h.len
  have hkeys : ∀ p ∈ delM L s, p.1.size ≤ maxLen := fun p hp => h.keys p (delM_mem hp).1
  rcases K.find w hkey es.toList (entry_keys hk h2 h.keys) with ⟨f1, f2⟩ | ⟨j, e0, f1, f2, f3⟩
  · refine ⟨ChangeMaps.setBlock w b (.map es clock), ?_, ⟨⟨_, _, ChangeMaps.heap_setBlock_same hb _, h1, ?_⟩, hlen, hkeys, delM_pair h.pair s⟩, kept_setBlock hb⟩
    · simp [Builtin.delete_, run_underlying ht, MapKept.run_getObj_map hb, K.check w _ hkey, f1, MapKept.run_setObj_map _ hb, Result.andThen, ChangeMaps.setBlock]
    · have : delM L s = L := List.filter_eq_self.2 (fun p hp => by simpa using entry_none h2 f2 p hp)
      rw [this]
      exact h2
  · obtain ⟨p, hp, h3, h4⟩ := entry_get h2 f2
    rw [f3] at h3
    injection h3 with h3
    have hp' : L[j]? = some (s, p.2) := by rw [hp, h3]
    have hjl : j < es.toList.length := (List.getElem?_eq_some_iff.1 f2).1
    have hjs : j < es.size := by simpa using hjl
    have hsub : (es.eraseIdxIfInBounds j).toList = es.toList.eraseIdx j := by
      unfold Array.eraseIdxIfInBounds
      rw [dif_pos hjs]
      simp
    refine ⟨ChangeMaps.setBlock w b (.map (es.eraseIdxIfInBounds j) clock), ?_, ⟨⟨_, _, ChangeMaps.heap_setBlock_same hb _, stamped_erase h1 j, ?_⟩, hlen, hkeys, delM_pair h.pair s⟩, kept_setBlock hb⟩
    · simp [Builtin.delete_, run_underlying ht, MapKept.run_getObj_map hb, K.check w _ hkey, f1, MapKept.run_setObj_map _ hb, Result.andThen, ChangeMaps.setBlock]
    · rw [delM_at h.pair hp', hsub, ChangeMaps.map_eraseIdx, h2, ChangeMaps.map_eraseIdx]
theorem MapIs.runLen (h : MapIs w b L) (ht : P.underlying t = some (.map k e)) (ty : TypeId) : (Builtin.len_ #[t] ty #[.map (some b)]).run P w = .ok (.int .i64 (L.length : Int)) w := by
  obtain ⟨es, clock, hb, h1, h2⟩ := h.ex
  have hl : es.size = L.length := by simpa using congrArg List.length h2
  simp [Builtin.len_, run_underlying ht, MapKept.run_getObj_map hb, goInt, Result.andThen, hl]
/-- The map as the library reads it. -/
theorem MapIs.owns (h : MapIs w b L) (hk : P.underlying k = some .string) : ∃ D0 : DataW Unit, w.ownsMap P k (fun _ => some (.nil, [])) b L.length D0 ∧ ∃ es : List (Lit × DataW Unit), D0 = .map es ∧ es.Perm (L.map fun p => (Lit.string p.1.data.toList, .nil)) := by
  obtain ⟨es, clock, hb, h1, h2⟩ := h.ex
  have hl : es.size = L.length := by simpa using congrArg List.length h2
  have hr : ∀ x ∈ es.toList, ∃ p ∈ L, x.key = .string p.1 := by
    intro x hx
    obtain ⟨j, hj⟩ := List.mem_iff_getElem?.1 hx
    obtain ⟨p, hp, h3, _⟩ := entry_get h2 hj
    exact ⟨p, List.mem_of_getElem? hp, h3⟩
  have F : Fit P k (fun _ => some ((.nil : DataW Unit), [])) es clock := ⟨by rw [hl]; exact h.len, h1, fun x hx => by
    obtain ⟨p, hp, h3⟩ := hr x hx
    refine ⟨(.string p.1.data.toList, .nil), ?_⟩
    simp [rd, h3, keyOf_string_mk hk (h.keys p hp)]⟩
  refine ⟨_, ⟨es, clock, hb, F, by omega, rfl⟩, _, rfl, (WideShapes.sorted_perm _).trans ?_⟩
  have e1 : es.toList.map (rg P k fun _ => some ((.nil : DataW Unit), [])) = L.map fun p => (Lit.string p.1.data.toList, .nil) := by
    apply List.ext_getElem?
    intro j
    rw [List.getElem?_map, List.getElem?_map]
    cases hj : es.toList[j]? with
    | none =>
      have : L[j]? = none := by
        rw [List.getElem?_eq_none_iff] at hj ⊢
        simp at hj
        omega
      rw [this]
      rfl
    | some e0 =>
      obtain ⟨p, hp, h3, _⟩ := entry_get h2 hj
      rw [hp]
      simp [rg, rd, h3, keyOf_string_mk hk (h.keys p (List.mem_of_getElem? hp))]
  rw [e1]
end
end Go.Proofs.YtficodklidaheaaDoor
/- The order of texts, plainly (A7 and AM hold the same two facts still). -/
namespace Go.Proofs.YtficodklidaheaaDoor
open Go
theorem bytesLess_total : ∀ x y : List UInt8, (Op.bytesLess x y || x == y) = !Op.bytesLess y x
  | [], [] => rfl
  | [], _ :: _ => rfl
  | _ :: _, [] => rfl
  | a :: x, b :: y => by
    have ih := bytesLess_total x y
    unfold Op.bytesLess
    have h1 : ((a :: x) == (b :: y)) = ((a == b) && (x == y)) := rfl
    rw [h1]
    by_cases hab : a = b
    · subst hab
      have hlt : decide (a < a) = false := decide_eq_false (by exact fun h => absurd h (by simp [UInt8.lt_irrefl]))
      simp only [beq_self_eq_true, Bool.true_and, hlt, Bool.false_or]
      exact ih
    · have hb1 : (a == b) = false := beq_eq_false_iff_ne.2 hab
      have hb2 : (b == a) = false := beq_eq_false_iff_ne.2 (fun e => hab e.symm)
      simp only [hb1, hb2, Bool.false_and, Bool.or_false]
      rcases Nat.lt_trichotomy a.toNat b.toNat with h | h | h
      · have l1 : decide (a < b) = true := decide_eq_true (UInt8.lt_iff_toNat_lt.2 h)
        have l2 : decide (b < a) = false := decide_eq_false (fun e => by have := UInt8.lt_iff_toNat_lt.1 e; omega)
        rw [l1, l2]; rfl
      · exact absurd (UInt8.toNat_inj.1 h) hab
      · have l1 : decide (b < a) = true := decide_eq_true (UInt8.lt_iff_toNat_lt.2 h)
        have l2 : decide (a < b) = false := decide_eq_false (fun e => by have := UInt8.lt_iff_toNat_lt.1 e; omega)
        rw [l1, l2]; rfl
theorem bytesLess_trans : ∀ x y z : List UInt8, Op.bytesLess x y = true → Op.bytesLess y z = true → Op.bytesLess x z = true
  | [], [], _, h, _ => by unfold Op.bytesLess at h; cases h
  | _ :: _, [], _, h, _ => by unfold Op.bytesLess at h; cases h
  | _, _ :: _, [], _, h => by unfold Op.bytesLess at h; cases h
  | [], _ :: _, _ :: _, _, _ => rfl
  | a :: x, b :: y, c :: z, h1, h2 => by
    have ih := bytesLess_trans x y z
    unfold Op.bytesLess at h1 h2 ⊢
    rw [Bool.or_eq_true, Bool.and_eq_true, decide_eq_true_eq, beq_iff_eq] at h1 h2 ⊢
    rw [UInt8.lt_iff_toNat_lt] at h1 h2 ⊢
    rcases h1 with h1 | ⟨e1, h1⟩
    · rcases h2 with h2 | ⟨e2, h2⟩
      · exact .inl (by omega)
      · subst e2; exact .inl h1
    · subst e1
      rcases h2 with h2 | ⟨e2, h2⟩
      · exact .inl h2
      · exact .inr ⟨e2, ih h1 h2⟩
/-- What stands between a text and one that begins with it, begins with it. -/
theorem pre_between : ∀ s a b : List UInt8, Op.bytesLess a s = false → Op.bytesLess b a = false → s <+: b → s <+: a
  | [], _, _, _, _, _ => List.nil_prefix
  | c :: s, [], b, h1, _, _ => by unfold Op.bytesLess at h1; cases h1
  | c :: s, d :: a, [], _, _, h3 => by simp at h3
  | c :: s, d :: a, f :: b, h1, h2, h3 => by
    rw [List.cons_prefix_cons] at h3 ⊢
    obtain ⟨rfl, h3⟩ := h3
    have ih := pre_between s a b
    unfold Op.bytesLess at h1 h2
    rw [Bool.or_eq_false_iff, Bool.and_eq_false_iff, decide_eq_false_iff_not, beq_eq_false_iff_ne] at h1 h2
    rw [UInt8.lt_iff_toNat_lt] at h1 h2
    have e : c = d := UInt8.toNat_inj.1 (by omega)
    subst e
    exact ⟨rfl, ih (h1.2.resolve_left (fun h => h rfl)) (h2.2.resolve_left (fun h => h rfl)) h3⟩
/-- What is below a text doesn't begin with it. -/
theorem pre_not_less : ∀ s a : List UInt8, s <+: a → Op.bytesLess a s = false
  | [], [], _ => rfl
  | [], _ :: _, _ => rfl
  | c :: s, [], h => by simp at h
  | c :: s, d :: a, h => by
    rw [List.cons_prefix_cons] at h
    obtain ⟨rfl, h⟩ := h
    have ih := pre_not_less s a h
    unfold Op.bytesLess
    rw [ih, decide_eq_false (by exact fun h => absurd h (by simp [UInt8.lt_irrefl]))]
    simp
end Go.Proofs.YtficodklidaheaaDoor
