/- Texts put together: S0, C1, F1. -/
import Derived.Test.YtficodklidaheaaDoorZz3
import Derived.Test.YtficodklidaheaaDoorZz1
import Derived.Test.YtficodklidaheaaDoorRows
import Derived.Lib.Hide
import Derived.Deep.DrawnRows
import Derived.Outline
/- Layer 18 plainly: names, files by rising names, what each call leaves. -/
namespace Go.Proofs.YtficodklidaheaaDoor
open Go.RowKit

/-- Go's order of texts. -/
def ltN (a b : ByteArray) : Bool := Op.bytesLess a.toList b.toList
theorem ltN_total (a b : ByteArray) : (ltN a b || a.toList == b.toList) = !ltN b a := bytesLess_total _ _
theorem ltN_trans {a b c : ByteArray} (h : ltN a b = true) (k : ltN b c = true) : ltN a c = true := bytesLess_trans _ _ _ h k
theorem ltN_irrefl (a : ByteArray) : ltN a a = false := by
  have h := ltN_total a a
  cases hx : ltN a a
  · rfl
  · rw [hx] at h; simp at h
theorem ltN_ne {a b : ByteArray} (h : ltN a b = true) : a ≠ b := by
  intro e
  rw [e, ltN_irrefl] at h
  cases h
theorem toList_ne {a b : ByteArray} (h : a ≠ b) : (a.toList == b.toList) = false := by
  refine beq_eq_false_iff_ne.2 (fun e => h (bl_inj ?_))
  unfold bl
  rw [e]
theorem ltN_tri {a b : ByteArray} (h : a ≠ b) (k : ltN a b = false) : ltN b a = true := by
  have := ltN_total a b
  rw [k, toList_ne h] at this
  simpa using this.symm
theorem ltN_asym {a b : ByteArray} (h : ltN a b = true) : ltN b a = false := by
  cases hx : ltN b a
  · rfl
  · have := ltN_trans h hx
    rw [ltN_irrefl] at this
    cases this

/-- Is that byte one of a name? -/
def nameC (c : Nat) : Bool := (decide (97 ≤ c) && decide (c ≤ 122)) || (decide (48 ≤ c) && decide (c ≤ 57)) || c == 46 || c == 45
def nameB (s : ByteArray) : Bool := decide (1 ≤ s.size) && decide (s.size ≤ 32) && (bl s).all nameC

/-- A file plainly: its bytes, and how many are sure. -/
structure PF where
  b : List Nat
  s : Nat
section
variable {α : Type}
/-- Rising keys. -/
def Asc (L : List (ByteArray × α)) : Prop := L.Pairwise fun p q => ltN p.1 q.1 = true
theorem Asc.pair {L : List (ByteArray × α)} (h : Asc L) : L.Pairwise fun p q => p.1 ≠ q.1 := h.imp fun h => ltN_ne h
/-- A thing in the place of its key. -/
def putS (L : List (ByteArray × α)) (s : ByteArray) (f : α) : List (ByteArray × α) := L.filter (fun p => ltN p.1 s) ++ (s, f) :: L.filter (fun p => ltN s p.1)
theorem getM_filter (q : ByteArray → Bool) : ∀ (L : List (ByteArray × α)) (t : ByteArray), getM (L.filter fun p => q p.1) t = if q t = true then getM L t else none
  | [], t => by simp [getM]
  | p :: r, t => by
    have ih := getM_filter q r t
    rw [List.filter_cons]
    by_cases h : q p.1 = true
    · rw [if_pos h]
      unfold getM
      rw [ih]
      by_cases e : p.1 = t
      · rw [if_pos e, if_pos e, if_pos (e ▸ h)]
      · rw [if_neg e, if_neg e]
    · rw [if_neg h, ih]
      by_cases e : p.1 = t
      · rw [← e, if_neg h, if_neg h]
      · show _ = if q t = true then getM (p :: r) t else none
        conv => rhs; unfold getM
        rw [if_neg e]
theorem getM_append (L M : List (ByteArray × α)) (t : ByteArray) : getM (L ++ M) t = (getM L t).or (getM M t) := by
  induction L with
  | nil => simp [getM]
  | cons p r ih =>
    show (if p.1 = t then some p.2 else getM (r ++ M) t) = (if p.1 = t then some p.2 else getM r t).or (getM M t)
    by_cases e : p.1 = t
    · simp [e]
    · simp [e, ih]
theorem getM_put (L : List (ByteArray × α)) (s : ByteArray) (f : α) (t : ByteArray) : getM (putS L s f) t = if s = t then some f else getM L t := by
  unfold putS
  rw [getM_append, getM_filter (fun x => ltN x s)]
  show (if ltN t s = true then getM L t else none).or (getM ((s, f) :: L.filter fun p => ltN s p.1) t) = _
  have e1 : getM ((s, f) :: L.filter fun p => ltN s p.1) t = if s = t then some f else if ltN s t = true then getM L t else none := by
    rw [getM, getM_filter (fun x => ltN s x)]
  rw [e1]
  by_cases e : s = t
  · subst e
    rw [ltN_irrefl]
    simp
  · rw [if_neg e, if_neg e]
    cases h1 : ltN t s
    · rw [ltN_tri (Ne.symm e) h1]; simp
    · rw [ltN_asym h1]; simp
theorem putS_asc {L : List (ByteArray × α)} (h : Asc L) (s : ByteArray) (f : α) : Asc (putS L s f) := by
  unfold putS Asc
  rw [List.pairwise_append]
  refine ⟨h.filter _, List.pairwise_cons.2 ⟨fun q hq => (List.mem_filter.1 hq).2, h.filter _⟩, fun p hp q hq => ?_⟩
  have hp' := (List.mem_filter.1 hp).2
  rcases List.mem_cons.1 hq with e | e
  · rw [e]; exact hp'
  · exact ltN_trans hp' (List.mem_filter.1 e).2
theorem putS_mem {L : List (ByteArray × α)} {s : ByteArray} {f : α} {p : ByteArray × α} (h : p ∈ putS L s f) : p = (s, f) ∨ (p ∈ L ∧ p.1 ≠ s) := by
  unfold putS at h
  rcases List.mem_append.1 h with e | e
  · have := List.mem_filter.1 e
    exact .inr ⟨this.1, ltN_ne this.2⟩
  · rcases List.mem_cons.1 e with e | e
    · exact .inl e
    · have := List.mem_filter.1 e
      exact .inr ⟨this.1, (ltN_ne this.2).symm⟩
theorem asc_ext {L M : List (ByteArray × α)} (hL : Asc L) (hM : Asc M) (h : ∀ t, getM L t = getM M t) : L = M := by
  have hm : ∀ p, p ∈ L ↔ p ∈ M := fun p => by
    constructor
    · intro x
      have := getM_of hL.pair (s := p.1) (v := p.2) x
      rw [h] at this
      exact getM_mem this
    · intro x
      have := getM_of hM.pair (s := p.1) (v := p.2) x
      rw [← h] at this
      exact getM_mem this
  have nd : ∀ {K : List (ByteArray × α)}, Asc K → K.Nodup := fun hK => hK.pair.imp fun h e => h (by rw [e])
  have hL' : L.Pairwise fun p q => ltN p.1 q.1 = true := hL
  have hM' : M.Pairwise fun p q => ltN p.1 q.1 = true := hM
  refine List.Perm.eq_of_pairwise (le := fun p q => ltN p.1 q.1 = true) (fun a b _ _ h1 h2 => ?_) hL' hM' ((List.perm_ext_iff_of_nodup (nd hL) (nd hM)).2 hm)
  rw [ltN_asym h1] at h2
  cases h2
theorem asc_filter {L : List (ByteArray × α)} (h : Asc L) (q : ByteArray × α → Bool) : Asc (L.filter q) := h.filter _
theorem delM_asc {L : List (ByteArray × α)} (h : Asc L) (s : ByteArray) : Asc (delM L s) := h.filter _
/-- What is told of two maps by their keys: they are permutations of one another. -/
theorem perm_of_get {L M : List (ByteArray × α)} (hL : L.Pairwise fun p q => p.1 ≠ q.1) (hM : M.Pairwise fun p q => p.1 ≠ q.1) (h : ∀ t, getM L t = getM M t) : L.Perm M := by
  have hm : ∀ p, p ∈ L ↔ p ∈ M := fun p => by
    constructor
    · intro x
      have := getM_of hL (s := p.1) (v := p.2) x
      rw [h] at this
      exact getM_mem this
    · intro x
      have := getM_of hM (s := p.1) (v := p.2) x
      rw [← h] at this
      exact getM_mem this
  have nd : ∀ {K : List (ByteArray × α)}, (K.Pairwise fun p q => p.1 ≠ q.1) → K.Nodup := fun hK => hK.imp fun h e => h (by rw [e])
  exact (List.perm_ext_iff_of_nodup (nd hL) (nd hM)).2 hm
theorem get_of_perm {L M : List (ByteArray × α)} (hL : L.Pairwise fun p q => p.1 ≠ q.1) (h : L.Perm M) (t : ByteArray) : getM L t = getM M t := by
  have hM : M.Pairwise fun p q => p.1 ≠ q.1 := (h.pairwise_iff (fun {a b} x => Ne.symm x)).1 hL
  cases hx : getM M t with
  | none => exact getM_none.2 (fun p hp => getM_none.1 hx p (h.mem_iff.1 hp))
  | some v => exact getM_of hL (h.mem_iff.2 (getM_mem hx))
end

/-- How many bytes files have. -/
def usedL (L : List (ByteArray × PF)) : Nat := (L.map fun p => p.2.b.length).sum
theorem usedL_cons (p : ByteArray × PF) (L : List (ByteArray × PF)) : usedL (p :: L) = p.2.b.length + usedL L := by simp [usedL]
theorem usedL_append (L M : List (ByteArray × PF)) : usedL (L ++ M) = usedL L + usedL M := by simp [usedL]
theorem usedL_perm {L M : List (ByteArray × PF)} (h : L.Perm M) : usedL L = usedL M := (h.map _).sum_nat
def szM : Option PF → Nat
  | some f => f.b.length
  | none => 0
theorem usedL_del {L : List (ByteArray × PF)} (hn : L.Pairwise fun p q => p.1 ≠ q.1) (s : ByteArray) : usedL (delM L s) + szM (getM L s) = usedL L := by
  induction L with
  | nil => rfl
  | cons p r ih =>
    obtain ⟨h1, h2⟩ := List.pairwise_cons.1 hn
    have := ih h2
    unfold delM at this ⊢
    rw [List.filter_cons]
    unfold getM
    by_cases e : p.1 = s
    · have hr : r.filter (fun p => decide (p.1 ≠ s)) = r := List.filter_eq_self.2 (fun q hq => by
        have := h1 q hq
        rw [e] at this
        simpa using this.symm)
      rw [if_pos e, hr, usedL_cons]
      simp [e, szM, Nat.add_comm]
    · rw [if_neg e]
      simp only [ne_eq, e, not_false_eq_true, decide_true, if_true]
      rw [usedL_cons, usedL_cons, Nat.add_assoc, this]
theorem putS_del {α : Type} {L : List (ByteArray × α)} (hn : L.Pairwise fun p q => p.1 ≠ q.1) (s : ByteArray) (f : α) : (putS L s f).Perm ((s, f) :: delM L s) := by
  have hp : (putS L s f).Pairwise fun p q => p.1 ≠ q.1 := by
    unfold putS
    rw [List.pairwise_append]
    refine ⟨hn.filter _, List.pairwise_cons.2 ⟨fun q hq => ltN_ne (List.mem_filter.1 hq).2, hn.filter _⟩, fun p hp q hq => ?_⟩
    have hp' := (List.mem_filter.1 hp).2
    rcases List.mem_cons.1 hq with e | e
    · rw [e]; exact ltN_ne hp'
    · exact ltN_ne (ltN_trans hp' (List.mem_filter.1 e).2)
  refine perm_of_get hp (List.pairwise_cons.2 ⟨fun q hq => (delM_mem hq).2.symm, delM_pair hn s⟩) (fun t => ?_)
  rw [getM_put, getM, getM_del]
  by_cases e : s = t
  · simp [e]
  · simp [e]
theorem usedL_put {L : List (ByteArray × PF)} (hn : L.Pairwise fun p q => p.1 ≠ q.1) (s : ByteArray) (f : PF) : usedL (putS L s f) + szM (getM L s) = usedL L + f.b.length := by
  have h1 := usedL_perm (putS_del hn s f)
  rw [usedL_cons] at h1
  have h2 := usedL_del hn s
  simp only at h1
  omega
theorem len_put {α : Type} {L : List (ByteArray × α)} (hn : L.Pairwise fun p q => p.1 ≠ q.1) (s : ByteArray) (f : α) : (putS L s f).length = (delM L s).length + 1 := by
  rw [(putS_del hn s f).length_eq]; rfl
theorem len_del {α : Type} {L : List (ByteArray × α)} (hn : L.Pairwise fun p q => p.1 ≠ q.1) (s : ByteArray) : (delM L s).length + (if (getM L s).isSome then 1 else 0) = L.length := by
  induction L with
  | nil => rfl
  | cons p r ih =>
    obtain ⟨h1, h2⟩ := List.pairwise_cons.1 hn
    have := ih h2
    unfold delM at this ⊢
    rw [List.filter_cons]
    unfold getM
    by_cases e : p.1 = s
    · have hr : r.filter (fun p => decide (p.1 ≠ s)) = r := List.filter_eq_self.2 (fun q hq => by
        have := h1 q hq
        rw [e] at this
        simpa using this.symm)
      rw [if_pos e, hr]
      simp [e]
    · rw [if_neg e]
      simp only [ne_eq] at this
      simp only [ne_eq, e, not_false_eq_true, decide_true, if_true, List.length_cons]
      omega

/-- A disk plainly. -/
structure DA where
  L : List (ByteArray × PF)
  cap : Int
  down : Bool
  calls : Int
  failIn : Int
  failBy : Int
  crashIn : Int
structure DOk (D : DA) : Prop where
  asc : Asc D.L
  name : ∀ p ∈ D.L, nameB p.1 = true
  count : D.L.length ≤ 4096
  capR : 1 ≤ D.cap ∧ D.cap ≤ 4194304
  used : (usedL D.L : Int) ≤ D.cap
  sure : ∀ p ∈ D.L, p.2.s ≤ p.2.b.length
  byte : ∀ p ∈ D.L, ∀ x ∈ p.2.b, x < 256
  callsR : I64 D.calls
  failR : -1 ≤ D.failIn ∧ D.failIn ≤ 9223372036854775807
  crashR : -1 ≤ D.crashIn ∧ D.crashIn ≤ 9223372036854775807
theorem nameB_size {s : ByteArray} (h : nameB s = true) : 1 ≤ s.size ∧ s.size ≤ 32 := by
  unfold nameB at h
  simp only [Bool.and_eq_true, decide_eq_true_eq] at h
  exact h.1
/-- A call that changes begins. -/
def countedD (D : DA) : DA := { D with calls := wrap64 (D.calls + 1), crashIn := max (-1) (D.crashIn - 1), failIn := max (-1) (D.failIn - 1) }
def beginD (D : DA) : DA × Int :=
  if D.down = true then (D, 13)
  else if D.crashIn = 0 then ({ countedD D with down := true }, 13)
  else if D.failIn = 0 then (countedD D, D.failBy) else (countedD D, 0)
/-- What is done behind its beginning. -/
def behindD (D : DA) (f : DA → DA × Int) : DA × Int := if (beginD D).2 = 0 then f (beginD D).1 else beginD D
def createF (s : ByteArray) (D : DA) : DA × Int :=
  if nameB s = false then (D, 3) else if (getM D.L s).isSome = true then (D, 8) else if 4096 ≤ D.L.length then (D, 6) else ({ D with L := putS D.L s ⟨[], 0⟩ }, 0)
def createD (D : DA) (s : ByteArray) : DA × Int := behindD D (createF s)
def withF (s : ByteArray) (g : PF → DA → DA × Int) (D : DA) : DA × Int :=
  match getM D.L s with
  | none => (D, 7)
  | some f => g f D
def appendD (D : DA) (s : ByteArray) (b : List Nat) : DA × Int :=
  behindD D (withF s fun f D => if D.cap - usedL D.L < (b.length : Int) then (D, 12) else ({ D with L := putS D.L s ⟨f.b ++ b, f.s⟩ }, 0))
def syncD (D : DA) (s : ByteArray) : DA × Int := behindD D (withF s fun f D => ({ D with L := putS D.L s ⟨f.b, f.b.length⟩ }, 0))
def cutF (f : PF) (n : Nat) : PF := ⟨f.b.take n, min f.s n⟩
def cutD (D : DA) (s : ByteArray) (n : Int) : DA × Int :=
  behindD D (withF s fun f D => if n < 0 ∨ (f.b.length : Int) < n then (D, 1) else ({ D with L := putS D.L s (cutF f n.toNat) }, 0))
def renameD (D : DA) (a c : ByteArray) : DA × Int :=
  behindD D (fun D => if nameB c = false then (D, 3) else withF a (fun f D => ({ D with L := putS (delM D.L a) c f }, 0)) D)
def removeD (D : DA) (s : ByteArray) : DA × Int := behindD D (withF s fun _ D => ({ D with L := delM D.L s }, 0))
/-- How many of a file's bytes a crash leaves. -/
def leftF (k : Int) (f : PF) : Nat := f.s + min k.toNat (f.b.length - f.s)
def bootF (k : Int) (f : PF) : PF := ⟨f.b.take (leftF k f), leftF k f⟩
def bootL : List Int → List (ByteArray × PF) → List (ByteArray × PF)
  | _, [] => []
  | keep, p :: r => (p.1, bootF (keep.headD 0) p.2) :: bootL keep.tail r
def bootD (D : DA) (keep : List Int) : DA × Int := if D.down = true then ({ D with L := bootL keep D.L, down := false, failIn := -1, crashIn := -1 }, 0) else (D, 16)
def armN (after : Int) : Int := max (-1) after
def failD (D : DA) (after e : Int) : DA := { D with failIn := if e = 0 then -1 else armN after, failBy := e }
def crashD (D : DA) (after : Int) : DA := { D with crashIn := armN after }

theorem countedD_ok {D : DA} (h : DOk D) : DOk (countedD D) := by
  obtain ⟨f1, f2⟩ := h.failR
  obtain ⟨c1, c2⟩ := h.crashR
  exact ⟨h.asc, h.name, h.count, h.capR, h.used, h.sure, h.byte, wrap64_range _, by unfold countedD; simp only; omega, by unfold countedD; simp only; omega⟩
theorem down_ok {D : DA} (h : DOk D) (b : Bool) : DOk { D with down := b } := ⟨h.asc, h.name, h.count, h.capR, h.used, h.sure, h.byte, h.callsR, h.failR, h.crashR⟩
theorem beginD_ok {D : DA} (h : DOk D) : DOk (beginD D).1 := by
  unfold beginD
  split
  · exact h
  · split
    · exact down_ok (countedD_ok h) true
    · split
      · exact countedD_ok h
      · exact countedD_ok h
theorem beginD_L (D : DA) : (beginD D).1.L = D.L ∧ (beginD D).1.cap = D.cap := by
  unfold beginD countedD
  split
  · exact ⟨rfl, rfl⟩
  · split
    · exact ⟨rfl, rfl⟩
    · split <;> exact ⟨rfl, rfl⟩
theorem behindD_ok {D : DA} (h : DOk D) {f : DA → DA × Int} (hf : ∀ D, DOk D → DOk (f D).1) : DOk (behindD D f).1 := by
  unfold behindD
  split
  · exact hf _ (beginD_ok h)
  · exact beginD_ok h
theorem withF_ok {D : DA} (h : DOk D) {s : ByteArray} {g : PF → DA → DA × Int} (hg : ∀ f, (s, f) ∈ D.L → DOk (g f D).1) : DOk (withF s g D).1 := by
  unfold withF
  split
  · exact h
  · rename_i f hf
    exact hg f (getM_mem hf)
theorem files_ok {D : DA} (h : DOk D) {M : List (ByteArray × PF)} (h1 : Asc M) (h2 : M.length ≤ 4096) (h3 : usedL M ≤ usedL D.L ∨ (usedL M : Int) ≤ D.cap) (h4 : ∀ p ∈ M, nameB p.1 = true ∧ p.2.s ≤ p.2.b.length ∧ ∀ x ∈ p.2.b, x < 256) : DOk { D with L := M } :=
  ⟨h1, fun p hp => (h4 p hp).1, h2, h.capR, by have := h.used; rcases h3 with h3 | h3; (· simp only; omega); exact h3, fun p hp => (h4 p hp).2.1, fun p hp => (h4 p hp).2.2, h.callsR, h.failR, h.crashR⟩
theorem put_ok {D : DA} (h : DOk D) {s : ByteArray} {f g : PF} (hs : (s, f) ∈ D.L) (h3 : (usedL D.L : Int) + g.b.length ≤ D.cap + f.b.length) (h4 : g.s ≤ g.b.length ∧ ∀ x ∈ g.b, x < 256) : DOk { D with L := putS D.L s g } := by
  have hg := getM_of h.asc.pair hs
  have e1 := usedL_put h.asc.pair s g
  rw [hg] at e1
  simp only [szM] at e1
  have e2 := len_put h.asc.pair s g
  have e3 := len_del h.asc.pair s
  rw [hg] at e3
  simp only [Option.isSome_some, if_true] at e3
  have := h.count
  refine files_ok h (putS_asc h.asc s g) (by omega) (.inr (by omega)) (fun p hp => ?_)
  rcases putS_mem hp with e | ⟨e, _⟩
  · rw [e]; exact ⟨h.name (s, f) hs, h4⟩
  · exact ⟨h.name p e, h.sure p e, h.byte p e⟩
theorem createF_ok {s : ByteArray} {D : DA} (h : DOk D) : DOk (createF s D).1 := by
  unfold createF
  split
  · exact h
  · rename_i hn
    split
    · exact h
    · rename_i h0
      split
      · exact h
      · rename_i h1
        have hg : getM D.L s = none := by
          cases hx : getM D.L s
          · rfl
          · rw [hx] at h0; simp at h0
        have e1 := usedL_put h.asc.pair s ⟨[], 0⟩
        rw [hg] at e1
        simp only [szM, List.length_nil] at e1
        have e2 := len_put h.asc.pair s (⟨[], 0⟩ : PF)
        have e3 := len_del h.asc.pair s
        rw [hg] at e3
        simp only [Option.isSome_none, Bool.false_eq_true, if_false] at e3
        refine files_ok h (putS_asc h.asc s _) (by omega) (.inl (by omega)) (fun p hp => ?_)
        rcases putS_mem hp with e | ⟨e, _⟩
        · rw [e]
          exact ⟨by simpa using hn, Nat.le_refl _, by simp⟩
        · exact ⟨h.name p e, h.sure p e, h.byte p e⟩
theorem createD_ok {D : DA} (h : DOk D) (s : ByteArray) : DOk (createD D s).1 := behindD_ok h fun _ h => createF_ok h
theorem appendD_ok {D : DA} (h : DOk D) (s : ByteArray) {b : List Nat} (hb : ∀ x ∈ b, x < 256) : DOk (appendD D s b).1 :=
  behindD_ok h fun D h => withF_ok h fun f hf => by
    split
    · exact h
    · rename_i h1
      refine put_ok h hf (by simp only [List.length_append]; omega) ⟨?_, ?_⟩
      · have := h.sure _ hf
        simp only [List.length_append] at this ⊢
        omega
      · intro x hx
        rcases List.mem_append.1 hx with e | e
        · exact h.byte _ hf x e
        · exact hb x e
theorem syncD_ok {D : DA} (h : DOk D) (s : ByteArray) : DOk (syncD D s).1 :=
  behindD_ok h fun D h => withF_ok h fun f hf => put_ok h hf (by have := h.used; simp only; omega) ⟨Nat.le_refl _, h.byte _ hf⟩
theorem cutF_ok {f : PF} (n : Nat) (h : f.s ≤ f.b.length) (hb : ∀ x ∈ f.b, x < 256) : (cutF f n).s ≤ (cutF f n).b.length ∧ (∀ x ∈ (cutF f n).b, x < 256) ∧ (cutF f n).b.length ≤ f.b.length := by
  unfold cutF
  simp only [List.length_take]
  exact ⟨by omega, fun x hx => hb x (List.mem_of_mem_take hx), by omega⟩
theorem cutD_ok {D : DA} (h : DOk D) (s : ByteArray) (n : Int) : DOk (cutD D s n).1 :=
  behindD_ok h fun D h => withF_ok h fun f hf => by
    split
    · exact h
    · obtain ⟨c1, c2, c3⟩ := cutF_ok n.toNat (h.sure _ hf) (h.byte _ hf)
      exact put_ok h hf (by have := h.used; simp only at c3 ⊢; omega) ⟨c1, c2⟩
theorem removeF_ok {D : DA} (h : DOk D) (s : ByteArray) : DOk { D with L := delM D.L s } := by
  have e1 := usedL_del h.asc.pair s
  have e2 := len_del h.asc.pair s
  have := h.count
  exact files_ok h (delM_asc h.asc s) (by omega) (.inl (by omega)) (fun p hp => ⟨h.name p (delM_mem hp).1, h.sure p (delM_mem hp).1, h.byte p (delM_mem hp).1⟩)
theorem removeD_ok {D : DA} (h : DOk D) (s : ByteArray) : DOk (removeD D s).1 := behindD_ok h fun _ h => withF_ok h fun _ _ => removeF_ok h s
theorem renameD_ok {D : DA} (h : DOk D) (a c : ByteArray) : DOk (renameD D a c).1 :=
  behindD_ok h fun _ h => by
    split
    · exact h
    · rename_i hn
      refine withF_ok h fun f hf => ?_
      have hg := getM_of h.asc.pair hf
      have hd := delM_pair h.asc.pair a
      have e1 := usedL_put hd c f
      have e2 := usedL_del h.asc.pair a
      rw [hg] at e2
      simp only [szM] at e2
      have e3 := len_put hd c f
      have e4 := len_del h.asc.pair a
      rw [hg] at e4
      simp only [Option.isSome_some, if_true] at e4
      have e5 := len_del hd c
      have := h.count
      have hu := h.used
      refine files_ok h (putS_asc (delM_asc h.asc a) c f) (by omega) (.inl (by omega)) (fun p hp => ?_)
      rcases putS_mem hp with e | ⟨e, _⟩
      · rw [e]
        exact ⟨by simpa using hn, h.sure (a, f) hf, h.byte (a, f) hf⟩
      · exact ⟨h.name p (delM_mem e).1, h.sure p (delM_mem e).1, h.byte p (delM_mem e).1⟩
theorem leftF_le (k : Int) {f : PF} (h : f.s ≤ f.b.length) : f.s ≤ leftF k f ∧ leftF k f ≤ f.b.length := by unfold leftF; omega
theorem bootL_key : ∀ (keep : List Int) (L : List (ByteArray × PF)), (bootL keep L).map (·.1) = L.map (·.1)
  | _, [] => rfl
  | keep, p :: r => by unfold bootL; simp [bootL_key keep.tail r]
theorem bootL_len (keep : List Int) (L : List (ByteArray × PF)) : (bootL keep L).length = L.length := by
  have := congrArg List.length (bootL_key keep L)
  simpa using this
theorem bootL_get : ∀ (keep : List Int) (L : List (ByteArray × PF)) (i : Nat) (p : ByteArray × PF), L[i]? = some p → (bootL keep L)[i]? = some (p.1, bootF (keep.getD i 0) p.2)
  | _, [], i, p, h => by simp at h
  | keep, q :: r, 0, p, h => by
    simp only [List.getElem?_cons_zero, Option.some.injEq] at h
    subst h
    unfold bootL
    cases keep <;> rfl
  | keep, q :: r, i + 1, p, h => by
    rw [List.getElem?_cons_succ] at h
    unfold bootL
    rw [List.getElem?_cons_succ, bootL_get keep.tail r i p h]
    cases keep <;> rfl
theorem bootL_mem {keep : List Int} {L : List (ByteArray × PF)} {p : ByteArray × PF} (h : p ∈ bootL keep L) : ∃ q ∈ L, ∃ k, p = (q.1, bootF k q.2) := by
  obtain ⟨i, hi⟩ := List.mem_iff_getElem?.1 h
  have hl : i < L.length := by
    have := (List.getElem?_eq_some_iff.1 hi).1
    rw [bootL_len] at this
    exact this
  have := bootL_get keep L i _ (List.getElem?_eq_getElem hl)
  rw [hi] at this
  exact ⟨_, List.getElem_mem hl, _, Option.some.inj this⟩
theorem bootL_asc {L : List (ByteArray × PF)} (h : Asc L) (keep : List Int) : Asc (bootL keep L) := by
  have : (L.map (·.1)).Pairwise fun a b => ltN a b = true := List.pairwise_map.2 h
  rw [← bootL_key keep L] at this
  exact List.pairwise_map.1 this
theorem bootL_used : ∀ (L : List (ByteArray × PF)) (keep : List Int), usedL (bootL keep L) ≤ usedL L
  | [], _ => Nat.le_refl _
  | p :: r, keep => by
    have ih := bootL_used r keep.tail
    unfold bootL
    rw [usedL_cons, usedL_cons]
    unfold bootF
    simp only [List.length_take]
    omega
theorem bootF_ok {k : Int} {f : PF} (h : f.s ≤ f.b.length) (hb : ∀ x ∈ f.b, x < 256) : (bootF k f).s ≤ (bootF k f).b.length ∧ ∀ x ∈ (bootF k f).b, x < 256 := by
  have := leftF_le k h
  unfold bootF
  simp only [List.length_take]
  exact ⟨by omega, fun x hx => hb x (List.mem_of_mem_take hx)⟩
theorem bootD_ok {D : DA} (h : DOk D) (keep : List Int) : DOk (bootD D keep).1 := by
  unfold bootD
  split
  · have h1 := files_ok h (bootL_asc h.asc keep) (by rw [bootL_len]; exact h.count) (.inl (bootL_used D.L keep)) (fun p hp => by
      obtain ⟨q, hq, k, e⟩ := bootL_mem hp
      rw [e]
      exact ⟨h.name q hq, bootF_ok (h.sure q hq) (h.byte q hq)⟩)
    exact ⟨h1.asc, h1.name, h1.count, h1.capR, h1.used, h1.sure, h1.byte, h1.callsR, ⟨by simp, by simp⟩, ⟨by simp, by simp⟩⟩
  · exact h
theorem failD_ok {D : DA} (h : DOk D) (after e : Int) (ha : I64 after) : DOk (failD D after e) :=
  ⟨h.asc, h.name, h.count, h.capR, h.used, h.sure, h.byte, h.callsR, by unfold failD armN; unfold I64 at ha; simp only; split <;> omega, h.crashR⟩
theorem crashD_ok {D : DA} (h : DOk D) (after : Int) (ha : I64 after) : DOk (crashD D after) :=
  ⟨h.asc, h.name, h.count, h.capR, h.used, h.sure, h.byte, h.callsR, h.failR, by unfold crashD armN; unfold I64 at ha; simp only; omega⟩
/-- A new disk. -/
def newL (cap : Int) : List (ByteArray × List Nat) → List (ByteArray × PF) → Option (List (ByteArray × PF))
  | [], L => some L
  | (s, b) :: r, L => if nameB s = false ∨ (getM L s).isSome = true ∨ cap - usedL L < (b.length : Int) then none else newL cap r (putS L s ⟨b, b.length⟩)
def newD (F : List (ByteArray × List Nat)) (cap : Int) : Option DA :=
  if cap < 1 ∨ 4194304 < cap ∨ 4096 < F.length then none else (newL cap F []).map fun L => ⟨L, cap, false, 0, -1, 0, -1⟩
end Go.Proofs.YtficodklidaheaaDoor
/- Plain facts on check sums. -/
namespace Go.Proofs.YtficodklidaheaaDoor
open Go.RowKit
def poly : Nat := 2197175160
/-- One step of a sum. -/
def stepN (n : Nat) : Nat := if n % 2 = 1 then n / 2 ^^^ poly else n / 2
/-- Some steps. -/
def stepsN : Nat → Nat → Nat
  | 0, n => n
  | k + 1, n => stepsN k (stepN n)
/-- A sum, not turned, behind some bytes. -/
def moreN (s : Nat) (l : List Nat) : Nat := l.foldl (fun s b => stepsN 8 (s ^^^ b)) s

theorem xor_div_two (a b : Nat) : (a ^^^ b) / 2 = a / 2 ^^^ b / 2 := by
  have := Nat.shiftRight_xor_distrib (a := a) (b := b) (i := 1)
  simpa [Nat.shiftRight_eq_div_pow] using this
theorem xor_mod_two (a b : Nat) : (a ^^^ b) % 2 = (a + b) % 2 := by
  have h := @Nat.xor_mod_two_eq_one a b
  omega
theorem stepN_xor (a b : Nat) : stepN (a ^^^ b) = stepN a ^^^ stepN b := by
  unfold stepN
  rw [xor_div_two, xor_mod_two]
  by_cases ha : a % 2 = 1 <;> by_cases hb : b % 2 = 1
  · rw [if_neg (by omega), if_pos ha, if_pos hb, Nat.xor_assoc, Nat.xor_comm poly, Nat.xor_assoc, Nat.xor_self, Nat.xor_zero]
  · rw [if_pos (by omega), if_pos ha, if_neg hb, Nat.xor_assoc, Nat.xor_assoc, Nat.xor_comm poly]
  · rw [if_pos (by omega), if_neg ha, if_pos hb, Nat.xor_assoc]
  · rw [if_neg (by omega), if_neg ha, if_neg hb]
theorem stepsN_xor (k : Nat) : ∀ a b : Nat, stepsN k (a ^^^ b) = stepsN k a ^^^ stepsN k b := by
  induction k with
  | zero => intro a b; rfl
  | succ k ih => intro a b; show stepsN k (stepN (a ^^^ b)) = _; rw [stepN_xor, ih]; rfl
theorem stepsN_add (j k n : Nat) : stepsN (j + k) n = stepsN k (stepsN j n) := by
  induction j generalizing n with
  | zero => simp [stepsN]
  | succ j ih => rw [Nat.succ_add]; show stepsN (j + k) (stepN n) = _; rw [ih]; rfl
theorem stepN_lt (n : Nat) (h : n < 4294967296) : stepN n < 4294967296 := by
  unfold stepN
  split
  · exact Nat.xor_lt_two_pow (n := 32) (by omega) (by decide)
  · omega
theorem stepsN_lt (k n : Nat) (h : n < 4294967296) : stepsN k n < 4294967296 := by
  induction k generalizing n with
  | zero => exact h
  | succ k ih => exact ih _ (stepN_lt n h)
theorem stepN_zero (n : Nat) (h : n < 4294967296) (h0 : stepN n = 0) : n = 0 := by
  unfold stepN at h0
  split at h0
  · have : n / 2 = poly := by
      have h1 : n / 2 ^^^ poly ^^^ poly = 0 ^^^ poly := by rw [h0]
      rwa [Nat.xor_assoc, Nat.xor_self, Nat.xor_zero, Nat.zero_xor] at h1
    have hp : poly = 2197175160 := rfl
    omega
  · omega
theorem stepsN_zero (k n : Nat) (h : n < 4294967296) (h0 : stepsN k n = 0) : n = 0 := by
  induction k generalizing n with
  | zero => exact h0
  | succ k ih => exact stepN_zero n h (ih _ (stepN_lt n h) h0)
theorem xor_eq_zero' {a b : Nat} (h : a ^^^ b = 0) : a = b := by
  have h1 : a ^^^ b ^^^ b = 0 ^^^ b := by rw [h]
  rwa [Nat.xor_assoc, Nat.xor_self, Nat.xor_zero, Nat.zero_xor] at h1
theorem stepsN_inj (k a b : Nat) (ha : a < 4294967296) (hb : b < 4294967296) (h : stepsN k a = stepsN k b) : a = b := by
  apply xor_eq_zero'
  apply stepsN_zero k _ (Nat.xor_lt_two_pow (n := 32) ha hb)
  rw [stepsN_xor, h, Nat.xor_self]
theorem stepsN_0 (k : Nat) : stepsN k 0 = 0 := by
  induction k with
  | zero => rfl
  | succ k ih => show stepsN k (stepN 0) = 0; rw [show stepN 0 = 0 from rfl, ih]

theorem moreN_lt (s : Nat) (l : List Nat) (hs : s < 4294967296) (hl : ∀ x ∈ l, x < 256) : moreN s l < 4294967296 := by
  unfold moreN
  induction l generalizing s with
  | nil => exact hs
  | cons b r ih =>
    have hb := hl b (by simp)
    exact ih _ (stepsN_lt 8 _ (Nat.xor_lt_two_pow (n := 32) hs (by omega))) (fun x hx => hl x (by simp [hx]))
theorem moreN_xor (s t : Nat) (l : List Nat) : moreN (s ^^^ t) l = moreN s l ^^^ stepsN (8 * l.length) t := by
  unfold moreN
  induction l generalizing s t with
  | nil => simp [stepsN]
  | cons b r ih =>
    simp only [List.foldl_cons, List.length_cons]
    have e : stepsN 8 (s ^^^ t ^^^ b) = stepsN 8 (s ^^^ b) ^^^ stepsN 8 t := by
      rw [← stepsN_xor]; congr 1; rw [Nat.xor_assoc, Nat.xor_comm t b, ← Nat.xor_assoc]
    rw [e, ih, ← stepsN_add]
    congr 2
    omega
theorem moreN_append (s : Nat) (l r : List Nat) : moreN s (l ++ r) = moreN (moreN s l) r := by simp [moreN]
theorem moreN_snoc (s : Nat) (l : List Nat) (b : Nat) : moreN s (l ++ [b]) = stepsN 8 (moreN s l ^^^ b) := by simp [moreN]

/-- The other bits. -/
theorem not_xor (n : Nat) (h : n < 4294967296) : 4294967295 - n = n ^^^ 4294967295 := by
  have hn : n < 2 ^ 32 := h
  have b := congrArg BitVec.toNat (BitVec.xor_allOnes (x := BitVec.ofNat 32 n))
  have : n ^^^ 4294967295 = 4294967295 - n := by
    simpa [BitVec.toNat_xor, BitVec.toNat_allOnes, BitVec.toNat_not, Nat.mod_eq_of_lt hn] using b
  exact this.symm

/-- The sum of bytes that had a sum, and some more. -/
def crcMore (s : Nat) (l : List Nat) : Nat := 4294967295 - moreN (4294967295 - s) l
theorem crcMore_lt (s : Nat) (l : List Nat) : crcMore s l < 4294967296 := by unfold crcMore; omega
theorem crcMore_append (s : Nat) (l r : List Nat) (hs : s < 4294967296) (hl : ∀ x ∈ l, x < 256) : crcMore s (l ++ r) = crcMore (crcMore s l) r := by
  have h := moreN_lt (4294967295 - s) l (by omega) hl
  unfold crcMore
  rw [moreN_append]
  congr 2
  omega
theorem crcMore_join (l r : List Nat) (hl : ∀ x ∈ l, x < 256) (hr : ∀ x ∈ r, x < 256) : crcMore 0 (l ++ r) = stepsN (8 * r.length) (crcMore 0 l) ^^^ crcMore 0 r := by
  have hL := moreN_lt 4294967295 l (by omega) hl
  have hR := moreN_lt 4294967295 r (by omega) hr
  have h1 : crcMore 0 l = moreN 4294967295 l ^^^ 4294967295 := not_xor _ hL
  have h2 : crcMore 0 r = moreN 4294967295 r ^^^ 4294967295 := not_xor _ hR
  have h3 : crcMore 0 (l ++ r) = moreN (moreN 4294967295 l) r ^^^ 4294967295 := by
    unfold crcMore
    rw [Nat.sub_zero, moreN_append, not_xor _ (moreN_lt _ r hL hr)]
  have h4 : moreN 4294967295 l = 4294967295 ^^^ crcMore 0 l := by
    rw [h1, Nat.xor_comm (moreN 4294967295 l), ← Nat.xor_assoc, Nat.xor_self, Nat.zero_xor]
  rw [h3, h4, moreN_xor, h2]
  rw [Nat.xor_assoc, Nat.xor_comm (moreN 4294967295 r), Nat.xor_assoc, Nat.xor_comm 4294967295]

/-- What four steps make of the lowest four bits. -/
def nibL : List Nat := [0, 274646895, 549293790, 820201905, 1098587580, 1361435347, 1640403810, 1905808397, 2197175160, 2460548119, 2722870694, 2987750089, 3280807620, 3553878443, 3811616794, 4084100981]
theorem nib_steps : ∀ n : Fin 16, stepsN 4 n.val = nibL.getD n.val 0 := by decide
theorem nibble (v : Nat) : stepsN 4 v = v / 16 ^^^ nibL.getD (v % 16) 0 := by
  have e : v = v / 16 * 16 ^^^ v % 16 := by
    have h1 := nat_join 4 (v / 16 * 16) (v % 16) (by omega) (by omega)
    have h2 : v / 16 * 16 ^^^ v % 16 = v / 16 * 16 ||| v % 16 := by
      apply Nat.eq_of_testBit_eq
      intro i
      simp only [Nat.testBit_xor, Nat.testBit_or]
      have a1 : (v / 16 * 16).testBit i = (decide (4 ≤ i) && (v / 16).testBit (i - 4)) := by
        have := Nat.testBit_shiftLeft (v / 16) (i := 4) (j := i)
        simpa [Nat.shiftLeft_eq] using this
      have a2 : (v % 16).testBit i = (decide (i < 4) && v.testBit i) := Nat.testBit_mod_two_pow v 4 i
      rw [a1, a2]
      by_cases h : 4 ≤ i
      · have : ¬ i < 4 := by omega
        simp [h, this]
      · simp [h]
    rw [h2, h1]; omega
  have e2 : stepsN 4 (v / 16 * 16) = v / 16 := by
    have hs : ∀ x : Nat, stepN (x * 2) = x := fun x => by unfold stepN; rw [if_neg (by omega)]; omega
    show stepN (stepN (stepN (stepN (v / 16 * 16)))) = _
    rw [show v / 16 * 16 = v / 16 * 8 * 2 from by omega, hs, show v / 16 * 8 = v / 16 * 4 * 2 from by omega, hs, show v / 16 * 4 = v / 16 * 2 * 2 from by omega, hs, hs]
  have h := nib_steps ⟨v % 16, by omega⟩
  simp only at h
  have : stepsN 4 v = stepsN 4 (v / 16 * 16 ^^^ v % 16) := by rw [← e]
  rw [this, stepsN_xor, e2, h]
end Go.Proofs.YtficodklidaheaaDoor
/- package crc's More and Of, in a seat that has no Join: the pieces of C3, C7, C8. -/
namespace Go.Proofs.YtficodklidaheaaDoor
open Go.RowKit
attribute [local go_sem ↓] Go.wp_at_zero Go.wp_at_succ

theorem xor32 (a b : Nat) (ha : a < 4294967296) (hb : b < 4294967296) : bits .xor .u32 (a : Int) (b : Int) = ((a ^^^ b : Nat) : Int) := u32_xor_nat a b (by omega) (by omega)
theorem and32_1 (a : Nat) (ha : a < 4294967296) : bits .and .u32 (a : Int) 1 = ((a % 2 : Nat) : Int) := by
  have h := u32_and_nat a 1 (by omega) (by omega)
  rw [Nat.and_two_pow_sub_one_eq_mod a 1] at h
  exact h
theorem and32_15 (a : Nat) (ha : a < 4294967296) : bits .and .u32 (a : Int) 15 = ((a % 16 : Nat) : Int) := by
  have h := u32_and_nat a 15 (by omega) (by omega)
  rw [Nat.and_two_pow_sub_one_eq_mod a 4] at h
  exact h
theorem and32_bit (a j : Nat) (ha : a < 4294967296) : bits .and .u32 ((a : Int) / 2 ^ j) 1 = ((a / 2 ^ j % 2 : Nat) : Int) := by
  have e : (a : Int) / 2 ^ j = ((a / 2 ^ j : Nat) : Int) := by simp
  rw [e]
  exact and32_1 _ (Nat.lt_of_le_of_lt (Nat.div_le_self _ _) ha)

/-- The value v is a slice that reads as the bytes l. -/
def Row8 (w : World) (v : Value) (l : List Nat) : Prop :=
  ∃ (ao : Option Addr) (c : Nat), v = .slice ao l.length c ∧ (∀ x ∈ l, x < 256) ∧ ∀ j, j < l.length → ∃ a, ao = some a ∧ w.cell? (a.add j) = some (.int .u8 ((l.getD j 0 : Nat) : Int))
theorem Row8.kept {w w' : World} {v : Value} {l : List Nat} (h : Row8 w v l) (hk : Kept (fun _ => False) w w') : Row8 w' v l := by
  obtain ⟨ao, c, hv, hb, hc⟩ := h
  refine ⟨ao, c, hv, hb, fun j hj => ?_⟩
  obtain ⟨a, ha, h1⟩ := hc j hj
  exact ⟨a, ha, hk.cell h1 fun x => x⟩
/-- The table of the program's own variable. -/
def Nibs (w : World) : Prop := ∀ j, j < 16 → w.cell? ⟨0, j, none⟩ = some (.int .u32 ((nibL.getD j 0 : Nat) : Int))
theorem Nibs.kept {w w' : World} (h : Nibs w) (hk : Kept (fun _ => False) w w') : Nibs w' := fun j hj => hk.cell (h j hj) fun x => x
theorem nib_lt : ∀ n : Fin 16, nibL.getD n.val 0 < 4294967296 := by decide
theorem xor32_max (n : Nat) (h : n < 4294967296) : bits .xor .u32 IntKind.u32.max (n : Int) = ((4294967295 - n : Nat) : Int) := by
  have e := xor32 4294967295 n (by omega) h
  rw [Nat.xor_comm, ← not_xor n h] at e
  exact e
theorem takeSucc (l : List Nat) (j : Nat) (h : j < l.length) : l.take (j + 1) = l.take j ++ [l.getD j 0] := by
  rw [List.take_add_one, List.getD_eq_getElem?_getD, List.getElem?_eq_getElem h]; rfl
theorem getD_lt {l : List Nat} {B : Nat} (hb : ∀ x ∈ l, x < B) {j : Nat} (h : j < l.length) : l.getD j 0 < B := by
  apply hb
  rw [List.getD_eq_getElem?_getD, List.getElem?_eq_getElem h]; simp

set_option maxHeartbeats 1000000 in
theorem more_any (s : Nat) (v : Value) (l : List Nat) (hs : s < 4294967296) (hl : l.length ≤ 1000000000) (w : World) (HB : Row8 w v l) (HN : Nibs w) :
    Calls Tryd.prog 58 #[.int .u32 s, v] w fun e w' => e = .returned (.int .u32 ((crcMore s l : Nat) : Int)) ∧ w = w' := by
  obtain ⟨ao, c, rfl, hb, hc⟩ := HB
  have HJ : Hid (crcMore s l = 4294967295 - moreN (4294967295 - s) l) := Lib.hid rfl
  have e0 := xor32_max s hs
  go_enter Tryd.func58, Tryd.ntmps58
  go_wp2
  go_loopw [5, 12] (fun x t wr => ∃ j : Nat, j ≤ l.length ∧ x = .int .u32 ((moreN (4294967295 - s) (l.take j) : Nat) : Int) ∧ t = .int .i64 j ∧ w = wr) (fun _ t _ => l.length - (intOf t).toNat)
  case atStart => exact ⟨0, by omega, by simp [moreN], rfl, rfl⟩
  case round =>
    obtain ⟨j, hj, rfl, rfl, rfl⟩ := hrel
    by_cases hd : j < l.length
    · have hd' : (j : Int) < (l.length : Int) := by omega
      have hj0 : (0 : Int) ≤ (j : Int) := by omega
      obtain ⟨a, rfl, hca⟩ := hc j hd
      have hT0 := getD_lt hb hd
      have HT := Lib.hid (takeSucc l j hd)
      have hV0 := moreN_lt (4294967295 - s) (l.take j) (by omega) (fun x hx => hb x (List.mem_of_mem_take hx))
      obtain ⟨T, hT⟩ : ∃ T, T = l.getD j 0 := ⟨_, rfl⟩
      rw [← hT] at hca hT0 HT
      clear hT hc
      obtain ⟨V, hV⟩ : ∃ V, V = moreN (4294967295 - s) (l.take j) := ⟨_, rfl⟩
      rw [← hV] at hV0 ⊢
      have HV := Lib.hid hV
      clear hV
      have e1 : IntKind.u32.wrap (T : Int) = (T : Int) := by rw [IntKind.wrap_u32]; omega
      have e2 := xor32 V T hV0 (by omega)
      have hU0 : V ^^^ T < 4294967296 := Nat.xor_lt_two_pow (n := 32) hV0 (by omega)
      have HE2 := Lib.hid e2
      go_wp2
      clear e0 e1 e2 hca
      go_loopw [5, 20] (fun x t wr => ∃ k : Nat, k ≤ 2 ∧ x = .int .u32 ((stepsN (4 * k) (V ^^^ T) : Nat) : Int) ∧ t = .int .i64 k ∧ w = wr) (fun _ t _ => 2 - (intOf t).toNat)
      case atStart => exact ⟨0, by omega, rfl, rfl, rfl⟩
      case round =>
        obtain ⟨k, hk, rfl, rfl, rfl⟩ := hrel
        by_cases hd2 : k < 2
        · have hk' : (k : Int) < 2 := by omega
          have hk0 : (0 : Int) ≤ (k : Int) := by omega
          have hW0 := stepsN_lt (4 * k) (V ^^^ T) hU0
          obtain ⟨U, hU⟩ : ∃ U, U = stepsN (4 * k) (V ^^^ T) := ⟨_, rfl⟩
          rw [← hU] at hW0 ⊢
          have hn4 : stepsN (4 * (k + 1)) (V ^^^ T) = U / 16 ^^^ nibL.getD (U % 16) 0 := by rw [← nibble, hU, ← stepsN_add]; rfl
          have hI0 : U % 16 < 16 := Nat.mod_lt _ (by omega)
          have e3 := and32_15 U hW0
          have hcN := HN (U % 16) hI0
          have hG0 := nib_lt ⟨U % 16, hI0⟩
          simp only at hG0
          obtain ⟨I, hI⟩ : ∃ I, I = U % 16 := ⟨_, rfl⟩
          rw [← hI] at hI0 e3 hcN hG0 hn4
          obtain ⟨G, hG⟩ : ∃ G, G = nibL.getD I 0 := ⟨_, rfl⟩
          rw [← hG] at hcN hG0 hn4
          have HN4 := Lib.hid hn4
          have e4 : bits .xor .u32 ((U : Int) / 16) (G : Int) = ((U / 16 ^^^ G : Nat) : Int) := by
            have := xor32 (U / 16) G (by omega) hG0
            rw [← this]; simp
          have HNN := Lib.hid HN
          have i0 : (0 : Int) ≤ (I : Int) := by omega
          have i1 : (I : Int) < 16 := by omega
          clear hI hG hn4 hU HN
          go_wp2
          go_roundw
          case rel => exact ⟨k + 1, hd2, by rw [HN4.out], by go_num, trivial⟩
          case measure => simp [intOf]; omega
        · obtain rfl : k = 2 := by omega
          go_wp2
          go_roundw
          case rel => exact ⟨j + 1, hd, by rw [HT.out, moreN_snoc, ← HV.out], by go_num, trivial⟩
          case measure => simp [intOf]; omega
    · obtain rfl : j = l.length := by omega
      rw [List.take_length]
      have hV0 := moreN_lt (4294967295 - s) l (by omega) hb
      have HX := Lib.hid (xor32_max _ hV0)
      clear hc
      go_wp2
      go_ret
      exact ⟨by rw [HJ.out, ← HX.out]; rfl, rfl⟩
set_option maxHeartbeats 1000000 in
theorem crcOf_any (v : Value) (l : List Nat) (hl : l.length ≤ 1000000000) (w : World) (HB : Row8 w v l) (HN : Nibs w) :
    Calls Tryd.prog 59 #[v] w fun e w' => e = .returned (.int .u32 ((crcMore 0 l : Nat) : Int)) ∧ w = w' := by
  go_enter Tryd.func59, Tryd.ntmps59
  go_wp2_with (go_at_call 58; refine (more_any 0 v l (by omega) hl _ HB HN).mono ?_; rintro e w' ⟨rfl, rfl⟩)
  go_ret
  exact ⟨rfl, rfl⟩

end Go.Proofs.YtficodklidaheaaDoor
