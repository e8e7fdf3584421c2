/- Texts put together: S0, SN, S1. -/
import Derived.Test.YtficodklidaheaaDoorZz3
import Derived.Test.YtficodklidaheaaDoorZz2
import Derived.Lib.ConvBytes
import Derived.Laws.Rows
/- Layer 18 plainly: names, files by rising names, what each call leaves. -/
namespace Go.Proofs.YtficodklidaheaaDoor
open Go.RowKit

/-- Go's order of texts. -/
def ltN (a b : ByteArray) : Bool := Op.bytesLess a.toList b.toList
theorem ltN_total (a b : ByteArray) : (ltN a b || a.toList == b.toList) = !ltN b a := bytesLess_total _ _
theorem ltN_trans {a b c : ByteArray} (h : ltN a b = true) (k : ltN b c = true) : ltN a c = true := bytesLess_trans _ _ _ h k
theorem ltN_irrefl (a : ByteArray) : ltN a a = false := by
  have h := ltN_total a a
  cases hx : ltN a a
  · rfl
  · rw [hx] at h; simp at h
theorem ltN_ne {a b : ByteArray} (h : ltN a b = true) : a ≠ b := by
  intro e
  rw [e, ltN_irrefl] at h
  cases h
theorem toList_ne {a b : ByteArray} (h : a ≠ b) : (a.toList == b.toList) = false := by
  refine beq_eq_false_iff_ne.2 (fun e => h (bl_inj ?_))
  unfold bl
  rw [e]
theorem ltN_tri {a b : ByteArray} (h : a ≠ b) (k : ltN a b = false) : ltN b a = true := by
  have := ltN_total a b
  rw [k, toList_ne h] at this
  simpa using this.symm
theorem ltN_asym {a b : ByteArray} (h : ltN a b = true) : ltN b a = false := by
  cases hx : ltN b a
  · rfl
  · have := ltN_trans h hx
    rw [ltN_irrefl] at this
    cases this

/-- Is that byte one of a name? -/
def nameC (c : Nat) : Bool := (decide (97 ≤ c) && decide (c ≤ 122)) || (decide (48 ≤ c) && decide (c ≤ 57)) || c == 46 || c == 45
def nameB (s : ByteArray) : Bool := decide (1 ≤ s.size) && decide (s.size ≤ 32) && (bl s).all nameC

/-- A file plainly: its bytes, and how many are sure. -/
structure PF where
  b : List Nat
  s : Nat
section
variable {α : Type}
/-- Rising keys. -/
def Asc (L : List (ByteArray × α)) : Prop := L.Pairwise fun p q => ltN p.1 q.1 = true
theorem Asc.pair {L : List (ByteArray × α)} (h : Asc L) : L.Pairwise fun p q => p.1 ≠ q.1 := h.imp fun h => ltN_ne h
/-- A thing in the place of its key. -/
def putS (L : List (ByteArray × α)) (s : ByteArray) (f : α) : List (ByteArray × α) := L.filter (fun p => ltN p.1 s) ++ (s, f) :: L.filter (fun p => ltN s p.1)
theorem getM_filter (q : ByteArray → Bool) : ∀ (L : List (ByteArray × α)) (t : ByteArray), getM (L.filter fun p => q p.1) t = if q t = true then getM L t else none
  | [], t => by simp [getM]
  | p :: r, t => by
    have ih := getM_filter q r t
    rw [List.filter_cons]
    by_cases h : q p.1 = true
    · rw [if_pos h]
      unfold getM
      rw [ih]
      by_cases e : p.1 = t
      · rw [if_pos e, if_pos e, if_pos (e ▸ h)]
      · rw [if_neg e, if_neg e]
    · rw [if_neg h, ih]
      by_cases e : p.1 = t
      · rw [← e, if_neg h, if_neg h]
      · show _ = if q t = true then getM (p :: r) t else none
        conv => rhs; unfold getM
        rw [if_neg e]
theorem getM_append (L M : List (ByteArray × α)) (t : ByteArray) : getM (L ++ M) t = (getM L t).or (getM M t) := by
  induction L with
  | nil => simp [getM]
  | cons p r ih =>
    show (if p.1 = t then some p.2 else getM (r ++ M) t) = (if p.1 = t then some p.2 else getM r t).or (getM M t)
    by_cases e : p.1 = t
    · simp [e]
    · simp [e, ih]
theorem getM_put (L : List (ByteArray × α)) (s : ByteArray) (f : α) (t : ByteArray) : getM (putS L s f) t = if s = t then some f else getM L t := by
  unfold putS
  rw [getM_append, getM_filter (fun x => ltN x s)]
  show (if ltN t s = true then getM L t else none).or (getM ((s, f) :: L.filter fun p => ltN s p.1) t) = _
  have e1 : getM ((s, f) :: L.filter fun p => ltN s p.1) t = if s = t then some f else if ltN s t = true then getM L t else none := by
    rw [getM, getM_filter (fun x => ltN s x)]
  rw [e1]
  by_cases e : s = t
  · subst e
    rw [ltN_irrefl]
    simp
  · rw [if_neg e, if_neg e]
    cases h1 : ltN t s
    · rw [ltN_tri (Ne.symm e) h1]; simp
    · rw [ltN_asym h1]; simp
theorem putS_asc {L : List (ByteArray × α)} (h : Asc L) (s : ByteArray) (f : α) : Asc (putS L s f) := by
  unfold putS Asc
  rw [List.pairwise_append]
  refine ⟨h.filter _, List.pairwise_cons.2 ⟨fun q hq => (List.mem_filter.1 hq).2, h.filter _⟩, fun p hp q hq => ?_⟩
  have hp' := (List.mem_filter.1 hp).2
  rcases List.mem_cons.1 hq with e | e
  · rw [e]; exact hp'
  · exact ltN_trans hp' (List.mem_filter.1 e).2
theorem putS_mem {L : List (ByteArray × α)} {s : ByteArray} {f : α} {p : ByteArray × α} (h : p ∈ putS L s f) : p = (s, f) ∨ (p ∈ L ∧ p.1 ≠ s) := by
  unfold putS at h
  rcases List.mem_append.1 h with e | e
  · have := List.mem_filter.1 e
    exact .inr ⟨this.1, ltN_ne this.2⟩
  · rcases List.mem_cons.1 e with e | e
    · exact .inl e
    · have := List.mem_filter.1 e
      exact .inr ⟨this.1, (ltN_ne this.2).symm⟩
theorem asc_ext {L M : List (ByteArray × α)} (hL : Asc L) (hM : Asc M) (h : ∀ t, getM L t = getM M t) : L = M := by
  have hm : ∀ p, p ∈ L ↔ p ∈ M := fun p => by
    constructor
    · intro x
      have := getM_of hL.pair (s := p.1) (v := p.2) x
      rw [h] at this
      exact getM_mem this
    · intro x
      have := getM_of hM.pair (s := p.1) (v := p.2) x
      rw [← h] at this
      exact getM_mem this
  have nd : ∀ {K : List (ByteArray × α)}, Asc K → K.Nodup := fun hK => hK.pair.imp fun h e => h (by rw [e])
  have hL' : L.Pairwise fun p q => ltN p.1 q.1 = true := hL
  have hM' : M.Pairwise fun p q => ltN p.1 q.1 = true := hM
  refine List.Perm.eq_of_pairwise (le := fun p q => ltN p.1 q.1 = true) (fun a b _ _ h1 h2 => ?_) hL' hM' ((List.perm_ext_iff_of_nodup (nd hL) (nd hM)).2 hm)
  rw [ltN_asym h1] at h2
  cases h2
theorem asc_filter {L : List (ByteArray × α)} (h : Asc L) (q : ByteArray × α → Bool) : Asc (L.filter q) := h.filter _
theorem delM_asc {L : List (ByteArray × α)} (h : Asc L) (s : ByteArray) : Asc (delM L s) := h.filter _
/-- What is told of two maps by their keys: they are permutations of one another. -/
theorem perm_of_get {L M : List (ByteArray × α)} (hL : L.Pairwise fun p q => p.1 ≠ q.1) (hM : M.Pairwise fun p q => p.1 ≠ q.1) (h : ∀ t, getM L t = getM M t) : L.Perm M := by
  have hm : ∀ p, p ∈ L ↔ p ∈ M := fun p => by
    constructor
    · intro x
      have := getM_of hL (s := p.1) (v := p.2) x
      rw [h] at this
      exact getM_mem this
    · intro x
      have := getM_of hM (s := p.1) (v := p.2) x
      rw [← h] at this
      exact getM_mem this
  have nd : ∀ {K : List (ByteArray × α)}, (K.Pairwise fun p q => p.1 ≠ q.1) → K.Nodup := fun hK => hK.imp fun h e => h (by rw [e])
  exact (List.perm_ext_iff_of_nodup (nd hL) (nd hM)).2 hm
theorem get_of_perm {L M : List (ByteArray × α)} (hL : L.Pairwise fun p q => p.1 ≠ q.1) (h : L.Perm M) (t : ByteArray) : getM L t = getM M t := by
  have hM : M.Pairwise fun p q => p.1 ≠ q.1 := (h.pairwise_iff (fun {a b} x => Ne.symm x)).1 hL
  cases hx : getM M t with
  | none => exact getM_none.2 (fun p hp => getM_none.1 hx p (h.mem_iff.1 hp))
  | some v => exact getM_of hL (h.mem_iff.2 (getM_mem hx))
end

/-- How many bytes files have. -/
def usedL (L : List (ByteArray × PF)) : Nat := (L.map fun p => p.2.b.length).sum
theorem usedL_cons (p : ByteArray × PF) (L : List (ByteArray × PF)) : usedL (p :: L) = p.2.b.length + usedL L := by simp [usedL]
theorem usedL_append (L M : List (ByteArray × PF)) : usedL (L ++ M) = usedL L + usedL M := by simp [usedL]
theorem usedL_perm {L M : List (ByteArray × PF)} (h : L.Perm M) : usedL L = usedL M := (h.map _).sum_nat
def szM : Option PF → Nat
  | some f => f.b.length
  | none => 0
theorem usedL_del {L : List (ByteArray × PF)} (hn : L.Pairwise fun p q => p.1 ≠ q.1) (s : ByteArray) : usedL (delM L s) + szM (getM L s) = usedL L := by
  induction L with
  | nil => rfl
  | cons p r ih =>
    obtain ⟨h1, h2⟩ := List.pairwise_cons.1 hn
    have := ih h2
    unfold delM at this ⊢
    rw [List.filter_cons]
    unfold getM
    by_cases e : p.1 = s
    · have hr : r.filter (fun p => decide (p.1 ≠ s)) = r := List.filter_eq_self.2 (fun q hq => by
        have := h1 q hq
        rw [e] at this
        simpa using this.symm)
      rw [if_pos e, hr, usedL_cons]
      simp [e, szM, Nat.add_comm]
    · rw [if_neg e]
      simp only [ne_eq, e, not_false_eq_true, decide_true, if_true]
      rw [usedL_cons, usedL_cons, Nat.add_assoc, this]
theorem putS_del {α : Type} {L : List (ByteArray × α)} (hn : L.Pairwise fun p q => p.1 ≠ q.1) (s : ByteArray) (f : α) : (putS L s f).Perm ((s, f) :: delM L s) := by
  have hp : (putS L s f).Pairwise fun p q => p.1 ≠ q.1 := by
    unfold putS
    rw [List.pairwise_append]
    refine ⟨hn.filter _, List.pairwise_cons.2 ⟨fun q hq => ltN_ne (List.mem_filter.1 hq).2, hn.filter _⟩, fun p hp q hq => ?_⟩
    have hp' := (List.mem_filter.1 hp).2
    rcases List.mem_cons.1 hq with e | e
    · rw [e]; exact ltN_ne hp'
    · exact ltN_ne (ltN_trans hp' (List.mem_filter.1 e).2)
  refine perm_of_get hp (List.pairwise_cons.2 ⟨fun q hq => (delM_mem hq).2.symm, delM_pair hn s⟩) (fun t => ?_)
  rw [getM_put, getM, getM_del]
  by_cases e : s = t
  · simp [e]
  · simp [e]
theorem usedL_put {L : List (ByteArray × PF)} (hn : L.Pairwise fun p q => p.1 ≠ q.1) (s : ByteArray) (f : PF) : usedL (putS L s f) + szM (getM L s) = usedL L + f.b.length := by
  have h1 := usedL_perm (putS_del hn s f)
  rw [usedL_cons] at h1
  have h2 := usedL_del hn s
  simp only at h1
  omega
theorem len_put {α : Type} {L : List (ByteArray × α)} (hn : L.Pairwise fun p q => p.1 ≠ q.1) (s : ByteArray) (f : α) : (putS L s f).length = (delM L s).length + 1 := by
  rw [(putS_del hn s f).length_eq]; rfl
theorem len_del {α : Type} {L : List (ByteArray × α)} (hn : L.Pairwise fun p q => p.1 ≠ q.1) (s : ByteArray) : (delM L s).length + (if (getM L s).isSome then 1 else 0) = L.length := by
  induction L with
  | nil => rfl
  | cons p r ih =>
    obtain ⟨h1, h2⟩ := List.pairwise_cons.1 hn
    have := ih h2
    unfold delM at this ⊢
    rw [List.filter_cons]
    unfold getM
    by_cases e : p.1 = s
    · have hr : r.filter (fun p => decide (p.1 ≠ s)) = r := List.filter_eq_self.2 (fun q hq => by
        have := h1 q hq
        rw [e] at this
        simpa using this.symm)
      rw [if_pos e, hr]
      simp [e]
    · rw [if_neg e]
      simp only [ne_eq] at this
      simp only [ne_eq, e, not_false_eq_true, decide_true, if_true, List.length_cons]
      omega

/-- A disk plainly. -/
structure DA where
  L : List (ByteArray × PF)
  cap : Int
  down : Bool
  calls : Int
  failIn : Int
  failBy : Int
  crashIn : Int
structure DOk (D : DA) : Prop where
  asc : Asc D.L
  name : ∀ p ∈ D.L, nameB p.1 = true
  count : D.L.length ≤ 4096
  capR : 1 ≤ D.cap ∧ D.cap ≤ 4194304
  used : (usedL D.L : Int) ≤ D.cap
  sure : ∀ p ∈ D.L, p.2.s ≤ p.2.b.length
  byte : ∀ p ∈ D.L, ∀ x ∈ p.2.b, x < 256
  callsR : I64 D.calls
  failR : -1 ≤ D.failIn ∧ D.failIn ≤ 9223372036854775807
  crashR : -1 ≤ D.crashIn ∧ D.crashIn ≤ 9223372036854775807
theorem nameB_size {s : ByteArray} (h : nameB s = true) : 1 ≤ s.size ∧ s.size ≤ 32 := by
  unfold nameB at h
  simp only [Bool.and_eq_true, decide_eq_true_eq] at h
  exact h.1
/-- A call that changes begins. -/
def countedD (D : DA) : DA := { D with calls := wrap64 (D.calls + 1), crashIn := max (-1) (D.crashIn - 1), failIn := max (-1) (D.failIn - 1) }
def beginD (D : DA) : DA × Int :=
  if D.down = true then (D, 13)
  else if D.crashIn = 0 then ({ countedD D with down := true }, 13)
  else if D.failIn = 0 then (countedD D, D.failBy) else (countedD D, 0)
/-- What is done behind its beginning. -/
def behindD (D : DA) (f : DA → DA × Int) : DA × Int := if (beginD D).2 = 0 then f (beginD D).1 else beginD D
def createF (s : ByteArray) (D : DA) : DA × Int :=
  if nameB s = false then (D, 3) else if (getM D.L s).isSome = true then (D, 8) else if 4096 ≤ D.L.length then (D, 6) else ({ D with L := putS D.L s ⟨[], 0⟩ }, 0)
def createD (D : DA) (s : ByteArray) : DA × Int := behindD D (createF s)
def withF (s : ByteArray) (g : PF → DA → DA × Int) (D : DA) : DA × Int :=
  match getM D.L s with
  | none => (D, 7)
  | some f => g f D
def appendD (D : DA) (s : ByteArray) (b : List Nat) : DA × Int :=
  behindD D (withF s fun f D => if D.cap - usedL D.L < (b.length : Int) then (D, 12) else ({ D with L := putS D.L s ⟨f.b ++ b, f.s⟩ }, 0))
def syncD (D : DA) (s : ByteArray) : DA × Int := behindD D (withF s fun f D => ({ D with L := putS D.L s ⟨f.b, f.b.length⟩ }, 0))
def cutF (f : PF) (n : Nat) : PF := ⟨f.b.take n, min f.s n⟩
def cutD (D : DA) (s : ByteArray) (n : Int) : DA × Int :=
  behindD D (withF s fun f D => if n < 0 ∨ (f.b.length : Int) < n then (D, 1) else ({ D with L := putS D.L s (cutF f n.toNat) }, 0))
def renameD (D : DA) (a c : ByteArray) : DA × Int :=
  behindD D (fun D => if nameB c = false then (D, 3) else withF a (fun f D => ({ D with L := putS (delM D.L a) c f }, 0)) D)
def removeD (D : DA) (s : ByteArray) : DA × Int := behindD D (withF s fun _ D => ({ D with L := delM D.L s }, 0))
/-- How many of a file's bytes a crash leaves. -/
def leftF (k : Int) (f : PF) : Nat := f.s + min k.toNat (f.b.length - f.s)
def bootF (k : Int) (f : PF) : PF := ⟨f.b.take (leftF k f), leftF k f⟩
def bootL : List Int → List (ByteArray × PF) → List (ByteArray × PF)
  | _, [] => []
  | keep, p :: r => (p.1, bootF (keep.headD 0) p.2) :: bootL keep.tail r
def bootD (D : DA) (keep : List Int) : DA × Int := if D.down = true then ({ D with L := bootL keep D.L, down := false, failIn := -1, crashIn := -1 }, 0) else (D, 16)
def armN (after : Int) : Int := max (-1) after
def failD (D : DA) (after e : Int) : DA := { D with failIn := if e = 0 then -1 else armN after, failBy := e }
def crashD (D : DA) (after : Int) : DA := { D with crashIn := armN after }

theorem countedD_ok {D : DA} (h : DOk D) : DOk (countedD D) := by
  obtain ⟨f1, f2⟩ := h.failR
  obtain ⟨c1, c2⟩ := h.crashR
  exact ⟨h.asc, h.name, h.count, h.capR, h.used, h.sure, h.byte, wrap64_range _, by unfold countedD; simp only; omega, by unfold countedD; simp only; omega⟩
theorem down_ok {D : DA} (h : DOk D) (b : Bool) : DOk { D with down := b } := ⟨h.asc, h.name, h.count, h.capR, h.used, h.sure, h.byte, h.callsR, h.failR, h.crashR⟩
theorem beginD_ok {D : DA} (h : DOk D) : DOk (beginD D).1 := by
  unfold beginD
  split
  · exact h
  · split
    · exact down_ok (countedD_ok h) true
    · split
      · exact countedD_ok h
      · exact countedD_ok h
theorem beginD_L (D : DA) : (beginD D).1.L = D.L ∧ (beginD D).1.cap = D.cap := by
  unfold beginD countedD
  split
  · exact ⟨rfl, rfl⟩
  · split
    · exact ⟨rfl, rfl⟩
    · split <;> exact ⟨rfl, rfl⟩
theorem behindD_ok {D : DA} (h : DOk D) {f : DA → DA × Int} (hf : ∀ D, DOk D → DOk (f D).1) : DOk (behindD D f).1 := by
  unfold behindD
  split
  · exact hf _ (beginD_ok h)
  · exact beginD_ok h
theorem withF_ok {D : DA} (h : DOk D) {s : ByteArray} {g : PF → DA → DA × Int} (hg : ∀ f, (s, f) ∈ D.L → DOk (g f D).1) : DOk (withF s g D).1 := by
  unfold withF
  split
  · exact h
  · rename_i f hf
    exact hg f (getM_mem hf)
theorem files_ok {D : DA} (h : DOk D) {M : List (ByteArray × PF)} (h1 : Asc M) (h2 : M.length ≤ 4096) (h3 : usedL M ≤ usedL D.L ∨ (usedL M : Int) ≤ D.cap) (h4 : ∀ p ∈ M, nameB p.1 = true ∧ p.2.s ≤ p.2.b.length ∧ ∀ x ∈ p.2.b, x < 256) : DOk { D with L := M } :=
  ⟨h1, fun p hp => (h4 p hp).1, h2, h.capR, by have := h.used; rcases h3 with h3 | h3; (· simp only; omega); exact h3, fun p hp => (h4 p hp).2.1, fun p hp => (h4 p hp).2.2, h.callsR, h.failR, h.crashR⟩
theorem put_ok {D : DA} (h : DOk D) {s : ByteArray} {f g : PF} (hs : (s, f) ∈ D.L) (h3 : (usedL D.L : Int) + g.b.length ≤ D.cap + f.b.length) (h4 : g.s ≤ g.b.length ∧ ∀ x ∈ g.b, x < 256) : DOk { D with L := putS D.L s g } := by
  have hg := getM_of h.asc.pair hs
  have e1 := usedL_put h.asc.pair s g
  rw [hg] at e1
  simp only [szM] at e1
  have e2 := len_put h.asc.pair s g
  have e3 := len_del h.asc.pair s
  rw [hg] at e3
  simp only [Option.isSome_some, if_true] at e3
  have := h.count
  refine files_ok h (putS_asc h.asc s g) (by omega) (.inr (by omega)) (fun p hp => ?_)
  rcases putS_mem hp with e | ⟨e, _⟩
  · rw [e]; exact ⟨h.name (s, f) hs, h4⟩
  · exact ⟨h.name p e, h.sure p e, h.byte p e⟩
theorem createF_ok {s : ByteArray} {D : DA} (h : DOk D) : DOk (createF s D).1 := by
  unfold createF
  split
  · exact h
  · rename_i hn
    split
    · exact h
    · rename_i h0
      split
      · exact h
      · rename_i h1
        have hg : getM D.L s = none := by
          cases hx : getM D.L s
          · rfl
          · rw [hx] at h0; simp at h0
        have e1 := usedL_put h.asc.pair s ⟨[], 0⟩
        rw [hg] at e1
        simp only [szM, List.length_nil] at e1
        have e2 := len_put h.asc.pair s (⟨[], 0⟩ : PF)
        have e3 := len_del h.asc.pair s
        rw [hg] at e3
        simp only [Option.isSome_none, Bool.false_eq_true, if_false] at e3
        refine files_ok h (putS_asc h.asc s _) (by omega) (.inl (by omega)) (fun p hp => ?_)
        rcases putS_mem hp with e | ⟨e, _⟩
        · rw [e]
          exact ⟨by simpa using hn, Nat.le_refl _, by simp⟩
        · exact ⟨h.name p e, h.sure p e, h.byte p e⟩
theorem createD_ok {D : DA} (h : DOk D) (s : ByteArray) : DOk (createD D s).1 := behindD_ok h fun _ h => createF_ok h
theorem appendD_ok {D : DA} (h : DOk D) (s : ByteArray) {b : List Nat} (hb : ∀ x ∈ b, x < 256) : DOk (appendD D s b).1 :=
  behindD_ok h fun D h => withF_ok h fun f hf => by
    split
    · exact h
    · rename_i h1
      refine put_ok h hf (by simp only [List.length_append]; omega) ⟨?_, ?_⟩
      · have := h.sure _ hf
        simp only [List.length_append] at this ⊢
        omega
      · intro x hx
        rcases List.mem_append.1 hx with e | e
        · exact h.byte _ hf x e
        · exact hb x e
theorem syncD_ok {D : DA} (h : DOk D) (s : ByteArray) : DOk (syncD D s).1 :=
  behindD_ok h fun D h => withF_ok h fun f hf => put_ok h hf (by have := h.used; simp only; omega) ⟨Nat.le_refl _, h.byte _ hf⟩
theorem cutF_ok {f : PF} (n : Nat) (h : f.s ≤ f.b.length) (hb : ∀ x ∈ f.b, x < 256) : (cutF f n).s ≤ (cutF f n).b.length ∧ (∀ x ∈ (cutF f n).b, x < 256) ∧ (cutF f n).b.length ≤ f.b.length := by
  unfold cutF
  simp only [List.length_take]
  exact ⟨by omega, fun x hx => hb x (List.mem_of_mem_take hx), by omega⟩
theorem cutD_ok {D : DA} (h : DOk D) (s : ByteArray) (n : Int) : DOk (cutD D s n).1 :=
  behindD_ok h fun D h => withF_ok h fun f hf => by
    split
    · exact h
    · obtain ⟨c1, c2, c3⟩ := cutF_ok n.toNat (h.sure _ hf) (h.byte _ hf)
      exact put_ok h hf (by have := h.used; simp only at c3 ⊢; omega) ⟨c1, c2⟩
theorem removeF_ok {D : DA} (h : DOk D) (s : ByteArray) : DOk { D with L := delM D.L s } := by
  have e1 := usedL_del h.asc.pair s
  have e2 := len_del h.asc.pair s
  have := h.count
  exact files_ok h (delM_asc h.asc s) (by omega) (.inl (by omega)) (fun p hp => ⟨h.name p (delM_mem hp).1, h.sure p (delM_mem hp).1, h.byte p (delM_mem hp).1⟩)
theorem removeD_ok {D : DA} (h : DOk D) (s : ByteArray) : DOk (removeD D s).1 := behindD_ok h fun _ h => withF_ok h fun _ _ => removeF_ok h s
theorem renameD_ok {D : DA} (h : DOk D) (a c : ByteArray) : DOk (renameD D a c).1 :=
  behindD_ok h fun _ h => by
    split
    · exact h
    · rename_i hn
      refine withF_ok h fun f hf => ?_
      have hg := getM_of h.asc.pair hf
      have hd := delM_pair h.asc.pair a
      have e1 := usedL_put hd c f
      have e2 := usedL_del h.asc.pair a
      rw [hg] at e2
      simp only [szM] at e2
      have e3 := len_put hd c f
      have e4 := len_del h.asc.pair a
      rw [hg] at e4
      simp only [Option.isSome_some, if_true] at e4
      have e5 := len_del hd c
      have := h.count
      have hu := h.used
      refine files_ok h (putS_asc (delM_asc h.asc a) c f) (by omega) (.inl (by omega)) (fun p hp => ?_)
      rcases putS_mem hp with e | ⟨e, _⟩
      · rw [e]
        exact ⟨by simpa using hn, h.sure (a, f) hf, h.byte (a, f) hf⟩
      · exact ⟨h.name p (delM_mem e).1, h.sure p (delM_mem e).1, h.byte p (delM_mem e).1⟩
theorem leftF_le (k : Int) {f : PF} (h : f.s ≤ f.b.length) : f.s ≤ leftF k f ∧ leftF k f ≤ f.b.length := by unfold leftF; omega
theorem bootL_key : ∀ (keep : List Int) (L : List (ByteArray × PF)), (bootL keep L).map (·.1) = L.map (·.1)
  | _, [] => rfl
  | keep, p :: r => by unfold bootL; simp [bootL_key keep.tail r]
theorem bootL_len (keep : List Int) (L : List (ByteArray × PF)) : (bootL keep L).length = L.length := by
  have := congrArg List.length (bootL_key keep L)
  simpa using this
theorem bootL_get : ∀ (keep : List Int) (L : List (ByteArray × PF)) (i : Nat) (p : ByteArray × PF), L[i]? = some p → (bootL keep L)[i]? = some (p.1, bootF (keep.getD i 0) p.2)
  | _, [], i, p, h => by simp at h
  | keep, q :: r, 0, p, h => by
    simp only [List.getElem?_cons_zero, Option.some.injEq] at h
    subst h
    unfold bootL
    cases keep <;> rfl
  | keep, q :: r, i + 1, p, h => by
    rw [List.getElem?_cons_succ] at h
    unfold bootL
    rw [List.getElem?_cons_succ, bootL_get keep.tail r i p h]
    cases keep <;> rfl
theorem bootL_mem {keep : List Int} {L : List (ByteArray × PF)} {p : ByteArray × PF} (h : p ∈ bootL keep L) : ∃ q ∈ L, ∃ k, p = (q.1, bootF k q.2) := by
  obtain ⟨i, hi⟩ := List.mem_iff_getElem?.1 h
  have hl : i < L.length := by
    have := (List.getElem?_eq_some_iff.1 hi).1
    rw [bootL_len] at this
    exact this
  have := bootL_get keep L i _ (List.getElem?_eq_getElem hl)
  rw [hi] at this
  exact ⟨_, List.getElem_mem hl, _, Option.some.inj this⟩
theorem bootL_asc {L : List (ByteArray × PF)} (h : Asc L) (keep : List Int) : Asc (bootL keep L) := by
  have : (L.map (·.1)).Pairwise fun a b => ltN a b = true := List.pairwise_map.2 h
  rw [← bootL_key keep L] at this
  exact List.pairwise_map.1 this
theorem bootL_used : ∀ (L : List (ByteArray × PF)) (keep : List Int), usedL (bootL keep L) ≤ usedL L
  | [], _ => Nat.le_refl _
  | p :: r, keep => by
    have ih := bootL_used r keep.tail
    unfold bootL
    rw [usedL_cons, usedL_cons]
    unfold bootF
    simp only [List.length_take]
    omega
theorem bootF_ok {k : Int} {f : PF} (h : f.s ≤ f.b.length) (hb : ∀ x ∈ f.b, x < 256) : (bootF k f).s ≤ (bootF k f).b.length ∧ ∀ x ∈ (bootF k f).b, x < 256 := by
  have := leftF_le k h
  unfold bootF
  simp only [List.length_take]
  exact ⟨by omega, fun x hx => hb x (List.mem_of_mem_take hx)⟩
theorem bootD_ok {D : DA} (h : DOk D) (keep : List Int) : DOk (bootD D keep).1 := by
  unfold bootD
  split
  · have h1 := files_ok h (bootL_asc h.asc keep) (by rw [bootL_len]; exact h.count) (.inl (bootL_used D.L keep)) (fun p hp => by
      obtain ⟨q, hq, k, e⟩ := bootL_mem hp
      rw [e]
      exact ⟨h.name q hq, bootF_ok (h.sure q hq) (h.byte q hq)⟩)
    exact ⟨h1.asc, h1.name, h1.count, h1.capR, h1.used, h1.sure, h1.byte, h1.callsR, ⟨by simp, by simp⟩, ⟨by simp, by simp⟩⟩
  · exact h
theorem failD_ok {D : DA} (h : DOk D) (after e : Int) (ha : I64 after) : DOk (failD D after e) :=
  ⟨h.asc, h.name, h.count, h.capR, h.used, h.sure, h.byte, h.callsR, by unfold failD armN; unfold I64 at ha; simp only; split <;> omega, h.crashR⟩
theorem crashD_ok {D : DA} (h : DOk D) (after : Int) (ha : I64 after) : DOk (crashD D after) :=
  ⟨h.asc, h.name, h.count, h.capR, h.used, h.sure, h.byte, h.callsR, h.failR, by unfold crashD armN; unfold I64 at ha; simp only; omega⟩
/-- A new disk. -/
def newL (cap : Int) : List (ByteArray × List Nat) → List (ByteArray × PF) → Option (List (ByteArray × PF))
  | [], L => some L
  | (s, b) :: r, L => if nameB s = false ∨ (getM L s).isSome = true ∨ cap - usedL L < (b.length : Int) then none else newL cap r (putS L s ⟨b, b.length⟩)
def newD (F : List (ByteArray × List Nat)) (cap : Int) : Option DA :=
  if cap < 1 ∨ 4194304 < cap ∨ 4096 < F.length then none else (newL cap F []).map fun L => ⟨L, cap, false, 0, -1, 0, -1⟩
end Go.Proofs.YtficodklidaheaaDoor
/- Bytes as texts: rows of bytes that are made, and their texts. -/
namespace Go.Proofs.YtficodklidaheaaDoor
open Go.RowKit
attribute [local go_sem ↓] Go.wp_at_zero Go.wp_at_succ

def byV (l : List Nat) : List Value := l.map fun (n : Nat) => Value.int .u8 (n : Int)
@[simp] theorem byV_length (l : List Nat) : (byV l).length = l.length := by simp [byV]
theorem byV_get {l : List Nat} {j : Nat} (h : j < l.length) : (byV l)[j]? = some (.int .u8 ((l.getD j 0 : Nat) : Int)) := by
  simp [byV, List.getD_eq_getElem?_getD, List.getElem?_eq_getElem h]
theorem byV_one (l : List Nat) : ∀ u ∈ byV l, u.oneCell' = true := by
  intro u hu
  obtain ⟨n, _, rfl⟩ := List.mem_map.1 hu
  rfl
theorem byV_append (a b : List Nat) : byV (a ++ b) = byV a ++ byV b := by simp [byV]
/-- Bytes as a text. -/
def strL (l : List Nat) : ByteArray := strOfNums (l.map fun (n : Nat) => (n : Int))
theorem strL_list (l : List Nat) : (strL l).toList = l.map UInt8.ofNat := by
  rw [ByteArray.toList_eq]
  simp [strL, strOfNums, List.map_map, Function.comp_def]
theorem bl_strL {l : List Nat} (h : ∀ x ∈ l, x < 256) : bl (strL l) = l := by
  unfold bl
  rw [strL_list, List.map_map]
  conv => rhs; rw [← List.map_id l]
  refine List.map_congr_left fun x hx => ?_
  have := h x hx
  simp; omega
theorem strL_bl (s : ByteArray) : strL (bl s) = s := bl_inj (bl_strL (fun _ hx => bl_lt hx))
theorem run_strL {P : Program} {w : World} {v : Value} {l : List Nat} (h : SlAt w v (byV l)) (src e dst : TypeId) (hs : P.underlying src = some (.slice e)) (he : P.underlying e = some (.int .u8)) (hd : P.underlying dst = some .string) :
    (convert src dst v).run P w = .ok (.string (strL l)) w := by
  rcases Nat.eq_zero_or_pos l.length with h0 | h0
  · obtain rfl : l = [] := List.eq_nil_of_length_eq_zero h0
    obtain ⟨ao, c, rfl, hn, hc⟩ := h.val
    cases ao with
    | none => exact run_convert_bytes_nil w src e hs he 0 c dst hd
    | some a =>
      rw [run_convert_bytes_string w src dst e _ _ c hs he hd]
      simp [Conv.bytesToString, loadCells, loadCellsFrom]
      rfl
  · obtain ⟨g, off, c, rfl, hc⟩ := h.addr (by rw [byV_length]; exact h0)
    rw [byV_length]
    have := run_convert_bytes_arg (P := P) w src e hs he g off l.length c (l.map fun (n : Nat) => (n : Int)) (by simp) (fun i hi => by
      rw [hc i _ (byV_get (by simpa using hi))]
      simp [List.getD_eq_getElem?_getD, List.getElem?_eq_getElem hi]) dst hd
    exact this
theorem Tryd.infoU8 : (Tryd.prog.info? 5).map (fun i => (i.zero, i.size, i.bytes)) = some (some (.int .u8 0), 1, 1) := by kernel_rfl
end Go.Proofs.YtficodklidaheaaDoor
/- Layer 18: a disk in memory; isName, change, Down, Used, Calls, Fail, Crash, has, changeOf. -/
namespace Go.Proofs.YtficodklidaheaaDoor
open Go.RowKit
attribute [local go_sem ↓] Go.wp_at_zero Go.wp_at_succ

/-- A block of cells. -/
def BoxAt (w : World) (q : Nat) (T : TypeId) (cs : Array Value) : Prop := w.heap[q]? = some (.cells cs T (0, 0))
section
variable {w w' : World} {q : Nat} {T : TypeId} {cs : Array Value}
theorem BoxAt.cell (h : BoxAt w q T cs) {i : Nat} {u : Value} (hi : cs[i]? = some u) : w.cell? ⟨q, i, none⟩ = some u := (cell_of_row _ _ i _ _ _ h).trans hi
theorem BoxAt.fz (h : BoxAt w q T cs) (i : Nat) : w.frozen? ⟨q, i, none⟩ = false := by unfold BoxAt at h; simp [World.frozen?, h]
theorem BoxAt.lt (h : BoxAt w q T cs) : q < w.heap.size := (Array.getElem?_eq_some_iff.1 h).1
theorem BoxAt.set (h : BoxAt w q T cs) (i : Nat) (u : Value) : BoxAt (w.setCell ⟨q, i, none⟩ u) q T (cs.set! i u) := by
  unfold BoxAt at *
  simp [World.setCell, Array.getElem?_modify, h]
theorem BoxAt.kept {S : Nat → Prop} (h : BoxAt w q T cs) (k : Kept S w w') (hn : ¬ S q) : BoxAt w' q T cs := k.same h hn
theorem BoxAt.new (w : World) (T : TypeId) (cs : Array Value) : BoxAt (w.alloc (.cells cs T)) w.heap.size T cs := heap_alloc_new w _
theorem kept_set (w : World) (q i : Nat) (u : Value) : Kept (fun k => k = q) w (w.setCell ⟨q, i, none⟩ u) := (Kept.refl (fun k => k = q) w).setCell (p := ⟨q, i, none⟩) (fun _ => rfl) u
end

/-- A file in memory. -/
structure Fi where
  a : Option Addr
  c : Nat
  b : List Nat
  s : Nat
def Fi.v (f : Fi) : Value := .slice f.a f.b.length f.c
def Fi.val (f : Fi) : Value := .agg #[.slice f.a f.b.length f.c, .int .i64 (f.s : Int)]
def Fi.t (f : Fi) : PF := ⟨f.b, f.s⟩
/-- Where a file's bytes lie: in a block of its own, or nowhere. -/
def OwnB (base : Nat) (w : World) (f : Fi) : Prop :=
  (f.a = none ∧ f.b = [] ∧ f.c = 0) ∨ ∃ g cur, f.a = some ⟨g, 0, none⟩ ∧ base ≤ g ∧ w.heap[g]? = some (.cells cur 5 (0, 0)) ∧ f.b.length ≤ f.c ∧ f.c ≤ cur.size ∧ f.c ≤ maxLen ∧ cur.toList.take f.b.length = byV f.b
section
variable {base : Nat} {w w' : World} {f : Fi}
theorem OwnB.kept {S : Nat → Prop} (h : OwnB base w f) (k : Kept S w w') (hn : ∀ j, f.v.ownBlock = some j → ¬ S j) : OwnB base w' f := by
  rcases h with h | ⟨g, cur, h1, h2, h3, h4⟩
  · exact .inl h
  · exact .inr ⟨g, cur, h1, h2, k.same h3 (hn g (by unfold Fi.v; rw [h1]; rfl)), h4⟩
theorem OwnB.block (h : OwnB base w f) {j : Nat} (hj : f.v.ownBlock = some j) : ∃ cur, w.heap[j]? = some (.cells cur 5 (0, 0)) ∧ base ≤ j := by
  rcases h with ⟨h, _⟩ | ⟨g, cur, h1, h2, h3, _⟩
  · unfold Fi.v at hj; rw [h] at hj; cases hj
  · unfold Fi.v at hj
    rw [h1] at hj
    injection hj with hj
    subst hj
    exact ⟨cur, h3, h2⟩
theorem OwnB.cap (h : OwnB base w f) : f.b.length ≤ f.c ∧ f.c ≤ maxLen := by
  rcases h with ⟨_, h1, h2⟩ | ⟨g, cur, _, _, _, h4, _, h5, _⟩
  · rw [h1, h2]; exact ⟨Nat.le_refl _, Nat.zero_le _⟩
  · exact ⟨h4, h5⟩
theorem OwnB.at_ (h : OwnB base w f) : SlAt w f.v (byV f.b) := by
  rcases h with ⟨h1, h2, h3⟩ | ⟨g, cur, h1, h2, h3, h4, h5, h6, h7⟩
  · unfold Fi.v
    rw [h1, h2, h3]
    exact SlAt.ofOwn (World.ownsRow_nil w 0 5 1)
  · refine ⟨f.a, f.c, ?_, fun e => ?_, fun a' e j u hu => ?_⟩
    · unfold Fi.v; rw [byV_length]
    · rw [h1] at e; cases e
    rw [h1] at e
    injection e with e
    subst e
    rw [addr_add0, cell_of_row _ _ j _ _ _ h3]
    rw [← h7, List.getElem?_take] at hu
    split at hu
    · rw [← Array.getElem?_toList]; exact hu
    · cases hu
end
/-- The disk's cells. -/
def boxD (mb : Nat) (D : DA) : Array Value := #[.map (some mb), .int .i64 D.cap, .int .i64 (usedL D.L : Int), .bool D.down, .int .i64 D.calls, .int .i64 D.failIn, .int .i64 D.failBy, .int .i64 D.crashIn]
def foot (db mb : Nat) (L : List (ByteArray × Fi)) (k : Nat) : Prop := k = db ∨ k = mb ∨ ∃ p ∈ L, p.2.v.ownBlock = some k
/-- A disk in memory. -/
structure DK (base : Nat) (w : World) (db mb : Nat) (L : List (ByteArray × Fi)) (D : DA) : Prop where
  box : BoxAt w db 111 (boxD mb D)
  map : MapIs w mb (mapM Fi.val L)
  perm : (mapM Fi.t L).Perm D.L
  data : ∀ p ∈ L, OwnB base w p.2
  sep : ∀ p ∈ L, ∀ q ∈ L, p.1 ≠ q.1 → ∀ k, p.2.v.ownBlock = some k → q.2.v.ownBlock ≠ some k
  base : base ≤ db ∧ base ≤ mb
  ok : DOk D
section
variable {base : Nat} {w w' : World} {db mb : Nat} {L : List (ByteArray × Fi)} {D : DA}
theorem DK.pair (h : DK base w db mb L D) : L.Pairwise fun p q => p.1 ≠ q.1 := by
  have := h.map.pair
  unfold mapM at this
  rw [List.pairwise_map] at this
  exact this
theorem DK.get (h : DK base w db mb L D) (s : ByteArray) : (getM L s).map Fi.t = getM D.L s := by
  rw [← getM_map, get_of_perm (mapM_pair _ h.pair) h.perm]
theorem DK.len (h : DK base w db mb L D) : L.length = D.L.length := by
  have := h.perm.length_eq
  simpa [mapM] using this
theorem DK.kept {S : Nat → Prop} (h : DK base w db mb L D) (k : Kept S w w') (hn : ∀ j, foot db mb L j → ¬ S j) : DK base w' db mb L D :=
  ⟨h.box.kept k (hn db (.inl rfl)), h.map.kept k (hn mb (.inr (.inl rfl))), h.perm, fun p hp => (h.data p hp).kept k (fun j e => hn j (.inr (.inr ⟨p, hp, e⟩))), h.sep, h.base, h.ok⟩
theorem DK.lt (h : DK base w db mb L D) {k : Nat} (hk : foot db mb L k) : k < w.heap.size ∧ base ≤ k := by
  rcases hk with rfl | rfl | ⟨p, hp, e⟩
  · exact ⟨h.box.lt, h.base.1⟩
  · exact ⟨h.map.lt, h.base.2⟩
  · obtain ⟨cur, h1, h2⟩ := (h.data p hp).block e
    exact ⟨(Array.getElem?_eq_some_iff.1 h1).1, h2⟩
theorem DK.c (h : DK base w db mb L D) : w.cell? ⟨db, 0, none⟩ = some (.map (some mb)) ∧ w.cell? ⟨db, 1, none⟩ = some (.int .i64 D.cap) ∧ w.cell? ⟨db, 2, none⟩ = some (.int .i64 (usedL D.L : Int)) ∧ w.cell? ⟨db, 3, none⟩ = some (.bool D.down) ∧
    w.cell? ⟨db, 4, none⟩ = some (.int .i64 D.calls) ∧ w.cell? ⟨db, 5, none⟩ = some (.int .i64 D.failIn) ∧ w.cell? ⟨db, 6, none⟩ = some (.int .i64 D.failBy) ∧ w.cell? ⟨db, 7, none⟩ = some (.int .i64 D.crashIn) :=
  ⟨h.box.cell rfl, h.box.cell rfl, h.box.cell rfl, h.box.cell rfl, h.box.cell rfl, h.box.cell rfl, h.box.cell rfl, h.box.cell rfl⟩
theorem DK.ne (h : DK base w db mb L D) : db ≠ mb := h.map.notCells h.box
theorem DK.cap (h : DK base w db mb L D) : I64 D.cap ∧ I64 D.failIn ∧ I64 D.crashIn ∧ I64 (usedL D.L : Int) := by
  have h1 := h.ok.capR
  have h2 := h.ok.failR
  have h3 := h.ok.crashR
  have h4 := h.ok.used
  unfold I64
  omega
/-- Only the disk's own cells were written. -/
theorem DK.turned (h : DK base w db mb L D) {w' : World} {D' : DA} (hb : BoxAt w' db 111 (boxD mb D')) (k : Kept (fun k => k = db) w w') (hL : D'.L = D.L) (ok : DOk D') : DK base w' db mb L D' :=
  ⟨hb, h.map.kept k (fun e => h.ne e.symm), by rw [hL]; exact h.perm, fun p hp => (h.data p hp).kept k (fun j e x => by
    obtain ⟨cur, h1, _⟩ := (h.data p hp).block e
    have hb := h.box
    unfold BoxAt at hb
    rw [x, hb] at h1
    injection h1 with h1
    injection h1 with _ h1
    exact absurd h1 (by decide)), h.sep, h.base, ok⟩
end

set_option maxHeartbeats 1000000 in
theorem dDown_any (base db mb : Nat) (L : List (ByteArray × Fi)) (D : DA) (w : World) (h : DK base w db mb L D) :
    Calls Tryd.prog 33 #[.pointer (some ⟨db, 0, none⟩)] w fun e w' => e = .returned (.bool D.down) ∧ w = w' := by
  have c3 := h.c.2.2.2.1
  clear h
  go_enter Tryd.func33, Tryd.ntmps33
  go_wp2
  go_ret
  exact ⟨rfl, rfl⟩
set_option maxHeartbeats 1000000 in
theorem dCalls_any (base db mb : Nat) (L : List (ByteArray × Fi)) (D : DA) (w : World) (h : DK base w db mb L D) :
    Calls Tryd.prog 80 #[.pointer (some ⟨db, 0, none⟩)] w fun e w' => e = .returned (.int .i64 D.calls) ∧ w = w' := by
  have c3 := h.c.2.2.2.2.1
  clear h
  go_enter Tryd.func80, Tryd.ntmps80
  go_wp2
  go_ret
  exact ⟨rfl, rfl⟩
/-- What Used answers. -/
def usedA (D : DA) : Int := if D.down = true then 0 else (usedL D.L : Int)
set_option maxHeartbeats 1000000 in
theorem dUsed_any (base db mb : Nat) (L : List (ByteArray × Fi)) (D : DA) (w : World) (h : DK base w db mb L D) :
    Calls Tryd.prog 63 #[.pointer (some ⟨db, 0, none⟩)] w fun e w' => e = .returned (.int .i64 (usedA D)) ∧ w = w' := by
  have c2 := h.c.2.2.1
  have c3 := h.c.2.2.2.1
  clear h
  unfold usedA
  obtain ⟨u, hu⟩ : ∃ u, u = (usedL D.L : Int) := ⟨_, rfl⟩
  rw [← hu] at c2 ⊢
  clear hu
  cases hd : D.down
  · rw [hd] at c3
    clear hd
    go_enter Tryd.func63, Tryd.ntmps63
    go_wp2
    go_ret
    exact ⟨rfl, rfl⟩
  · rw [hd] at c3
    clear hd
    go_enter Tryd.func63, Tryd.ntmps63
    go_wp2
    go_ret
    exact ⟨rfl, rfl⟩
end Go.Proofs.YtficodklidaheaaDoor
