/- Texts put together: WC, WU. -/
import Derived.Test.YtficodklidaheaaDoorZz19
import Derived.Test.YtficodklidaheaaDoorZz22
import Derived.Test.YtficodklidaheaaDoorZz9
import Derived.Test.YtficodklidaheaaDoorZz14
import Derived.Test.YtficodklidaheaaDoorZz25
/- Layer 20 plainly: whenever the power goes while something is saved. -/
namespace Go.Proofs.YtficodklidaheaaDoor
open Go.RowKit

def sN : ByteArray := { data := #[115] }
def nxN : ByteArray := sN ++ nwN
theorem nxN_eq : nxN = { data := #[115, 46, 110, 101, 119] } := by decide +kernel
theorem sN_lt : ltN sN nxN = true := by rw [nxN_eq]; decide +kernel
theorem nxN_lt : ltN nxN sN = false := ltN_asym sN_lt
theorem sN_ne : sN ≠ nxN := ltN_ne sN_lt
theorem nxN_name : nameB nxN = true := by rw [nxN_eq]; decide +kernel
theorem sN_name : nameB sN = true := by decide +kernel
/-- A file that is a payload's frame, all of it sure. -/
def fullF (x : List Nat) : PF := ⟨frameL x, (frameL x).length⟩
theorem two_get (a g : PF) : getM [(sN, a), (nxN, g)] nxN = some g ∧ getM [(sN, a), (nxN, g)] sN = some a ∧ getM [(sN, a)] nxN = none := by
  refine ⟨?_, ?_, ?_⟩
  · simp [getM, sN_ne]
  · simp [getM]
  · simp [getM, sN_ne]
theorem two_put (a g h : PF) : putS [(sN, a), (nxN, g)] nxN h = [(sN, a), (nxN, h)] ∧ putS [(sN, a)] nxN h = [(sN, a), (nxN, h)] := by
  refine ⟨?_, ?_⟩
  · simp [putS, sN_lt, nxN_lt, ltN_irrefl]
  · simp [putS, sN_lt, nxN_lt]
theorem two_del (a g : PF) : delM [(sN, a), (nxN, g)] nxN = [(sN, a)] := by
  simp [delM, sN_ne]
theorem one_del (a : PF) (h : PF) : putS [(sN, a)] sN h = [(sN, h)] := putS_one _ _ _
/-- The old payload is there; beside it the new file, perhaps. -/
def OldIs (D : DA) (x : List Nat) : Prop := D.L = [(sN, fullF x)] ∨ ∃ g, D.L = [(sN, fullF x), (nxN, g)]
theorem beginD_old {D : DA} {x : List Nat} (h : OldIs D x) : OldIs (beginD D).1 x := by unfold OldIs; rw [(beginD_L D).1]; exact h
theorem behind_cases (D : DA) (f : DA → DA × Int) : (behindD D f = f (beginD D).1 ∧ (beginD D).2 = 0) ∨ (behindD D f = beginD D ∧ (beginD D).2 ≠ 0) := by
  unfold behindD
  by_cases h : (beginD D).2 = 0
  · exact .inl ⟨if_pos h, h⟩
  · exact .inr ⟨if_neg h, h⟩
theorem withF_get {s : ByteArray} {g : PF → DA → DA × Int} {D : DA} : (getM D.L s = none ∧ withF s g D = (D, 7)) ∨ ∃ f, getM D.L s = some f ∧ withF s g D = g f D := by
  unfold withF
  cases h : getM D.L s with
  | none => exact .inl ⟨rfl, rfl⟩
  | some f => exact .inr ⟨f, rfl, rfl⟩
theorem remove_old {D : DA} {x : List Nat} (h : OldIs D x) : OldIs (removeD D nxN).1 x ∧ ((removeD D nxN).2 = 0 → (removeD D nxN).1.L = [(sN, fullF x)]) := by
  have hb := beginD_old h
  unfold removeD
  rcases behind_cases D (withF nxN fun _ D => ({ D with L := delM D.L nxN }, 0)) with ⟨e, _⟩ | ⟨e, e2⟩
  · rw [e]
    rcases hb with hb | ⟨g, hb⟩
    · unfold withF
      rw [hb, (two_get (fullF x) (fullF x)).2.2]
      exact ⟨.inl hb, fun _ => hb⟩
    · unfold withF
      rw [hb, (two_get (fullF x) g).1]
      dsimp only
      rw [hb, two_del]
      exact ⟨.inl rfl, fun _ => rfl⟩
  · rw [e]; exact ⟨hb, fun x => absurd x e2⟩
theorem tidy_old {D : DA} {x : List Nat} (h : OldIs D x) : OldIs (tidyD D nxN).1 x ∧ (D.down = false → (tidyD D nxN).2 = 0 → (tidyD D nxN).1.L = [(sN, fullF x)]) := by
  unfold tidyD thereD
  by_cases hd : D.down = true
  · rw [hd]
    exact ⟨h, fun e => by cases e⟩
  · have hd' : D.down = false := by simpa using hd
    rw [hd']
    rcases h with h | ⟨g, h⟩
    · rw [h, (two_get (fullF x) (fullF x)).2.2]
      exact ⟨.inl h, fun _ _ => h⟩
    · rw [h, (two_get (fullF x) g).1]
      have := remove_old (D := D) (x := x) (.inr ⟨g, h⟩)
      exact ⟨this.1, fun _ => this.2⟩
theorem create_old {D : DA} {x : List Nat} (h : OldIs D x) : OldIs (createD D nxN).1 x ∧ ((createD D nxN).2 = 0 → (createD D nxN).1.L = [(sN, fullF x), (nxN, ⟨[], 0⟩)]) := by
  have hb := beginD_old h
  unfold createD
  rcases behind_cases D (createF nxN) with ⟨e, _⟩ | ⟨e, e2⟩
  · rw [e]
    rcases hb with hb | ⟨g, hb⟩
    · have e2 : createF nxN (beginD D).1 = ({ (beginD D).1 with L := [(sN, fullF x), (nxN, ⟨[], 0⟩)] }, 0) := by
        unfold createF
        rw [nxN_name, hb, (two_get (fullF x) (fullF x)).2.2, (two_put (fullF x) (fullF x) _).2]
        rfl
      rw [e2]
      exact ⟨.inr ⟨⟨[], 0⟩, rfl⟩, fun _ => rfl⟩
    · have e2 : createF nxN (beginD D).1 = ((beginD D).1, 8) := by
        unfold createF
        rw [nxN_name, hb, (two_get (fullF x) g).1]
        rfl
      rw [e2]
      exact ⟨.inr ⟨g, hb⟩, fun e => by cases e⟩
  · rw [e]; exact ⟨hb, fun x => absurd x e2⟩
theorem append_old {D : DA} {x : List Nat} {g : PF} (h : D.L = [(sN, fullF x), (nxN, g)]) (b : List Nat) : OldIs (appendD D nxN b).1 x ∧ ((appendD D nxN b).2 = 0 → (appendD D nxN b).1.L = [(sN, fullF x), (nxN, ⟨g.b ++ b, g.s⟩)]) := by
  have hb : (beginD D).1.L = [(sN, fullF x), (nxN, g)] := by rw [(beginD_L D).1]; exact h
  unfold appendD
  rcases behind_cases D (withF nxN fun f D => if D.cap - usedL D.L < (b.length : Int) then (D, 12) else ({ D with L := putS D.L nxN ⟨f.b ++ b, f.s⟩ }, 0)) with ⟨e, _⟩ | ⟨e, e2⟩
  · rw [e]
    unfold withF
    rw [hb, (two_get (fullF x) g).1]
    dsimp only
    split
    · exact ⟨.inr ⟨g, hb⟩, fun e => by cases e⟩
    · exact ⟨.inr ⟨_, by dsimp only; rw [hb, (two_put (fullF x) g _).1]⟩, fun _ => by dsimp only; rw [hb, (two_put (fullF x) g _).1]⟩
  · rw [e]; exact ⟨.inr ⟨g, hb⟩, fun x => absurd x e2⟩
theorem sync_old {D : DA} {x : List Nat} {g : PF} (h : D.L = [(sN, fullF x), (nxN, g)]) : OldIs (syncD D nxN).1 x ∧ ((syncD D nxN).2 = 0 → (syncD D nxN).1.L = [(sN, fullF x), (nxN, ⟨g.b, g.b.length⟩)]) := by
  have hb : (beginD D).1.L = [(sN, fullF x), (nxN, g)] := by rw [(beginD_L D).1]; exact h
  unfold syncD
  rcases behind_cases D (withF nxN fun f D => ({ D with L := putS D.L nxN ⟨f.b, f.b.length⟩ }, 0)) with ⟨e, _⟩ | ⟨e, e2⟩
  · rw [e]
    unfold withF
    rw [hb, (two_get (fullF x) g).1]
    exact ⟨.inr ⟨_, by dsimp only; rw [hb, (two_put (fullF x) g _).1]⟩, fun _ => by dsimp only; rw [hb, (two_put (fullF x) g _).1]⟩
  · rw [e]; exact ⟨.inr ⟨g, hb⟩, fun x => absurd x e2⟩
theorem rename_old {D : DA} {x : List Nat} {g : PF} (h : D.L = [(sN, fullF x), (nxN, g)]) : ((renameD D nxN sN).2 = 0 ∧ (renameD D nxN sN).1.L = [(sN, g)]) ∨ ((renameD D nxN sN).2 ≠ 0 ∧ OldIs (renameD D nxN sN).1 x) := by
  have hb : (beginD D).1.L = [(sN, fullF x), (nxN, g)] := by rw [(beginD_L D).1]; exact h
  unfold renameD
  rcases behind_cases D (fun D => if nameB sN = false then (D, 3) else withF nxN (fun f D => ({ D with L := putS (delM D.L nxN) sN f }, 0)) D) with ⟨e, _⟩ | ⟨e, e2⟩
  · rw [e, sN_name, if_neg (by simp)]
    unfold withF
    rw [hb, (two_get (fullF x) g).1]
    exact .inl ⟨rfl, by dsimp only; rw [hb, two_del, putS_one]⟩
  · rw [e]; exact .inr ⟨e2, .inr ⟨g, hb⟩⟩
/-- What Save leaves of an old payload: the new one where it answers OK, else the old one. -/
theorem save_old {D : DA} {x y : List Nat} (h : OldIs D x) (hd : D.down = false) (hy : y.length ≤ 65536) :
    ((saveD D sN y).2 = 0 ∧ (saveD D sN y).1.L = [(sN, fullF y)]) ∨ ((saveD D sN y).2 ≠ 0 ∧ OldIs (saveD D sN y).1 x) := by
  have e0 : saveD D sN y = undoD (triesD D nxN sN (frameL y)) nxN := by
    unfold saveD
    rw [if_neg (by decide +kernel), if_neg (by omega)]
    rfl
  have key : ((triesD D nxN sN (frameL y)).2 = 0 ∧ (triesD D nxN sN (frameL y)).1.L = [(sN, fullF y)]) ∨ ((triesD D nxN sN (frameL y)).2 ≠ 0 ∧ OldIs (triesD D nxN sN (frameL y)).1 x) := by
    unfold triesD
    obtain ⟨t1, t2⟩ := tidy_old h
    by_cases z1 : (tidyD D nxN).2 = 0
    · rw [show thenD (tidyD D nxN) _ = _ from if_pos z1]
      obtain ⟨c1, c2⟩ := create_old (x := x) (.inl (t2 hd z1))
      by_cases z2 : (createD (tidyD D nxN).1 nxN).2 = 0
      · rw [show thenD (createD (tidyD D nxN).1 nxN) _ = _ from if_pos z2]
        obtain ⟨a1, a2⟩ := append_old (c2 z2) (frameL y)
        by_cases z3 : (appendD (createD (tidyD D nxN).1 nxN).1 nxN (frameL y)).2 = 0
        · rw [show thenD (appendD (createD (tidyD D nxN).1 nxN).1 nxN (frameL y)) _ = _ from if_pos z3]
          obtain ⟨s1, s2⟩ := sync_old (a2 z3)
          by_cases z4 : (syncD (appendD (createD (tidyD D nxN).1 nxN).1 nxN (frameL y)).1 nxN).2 = 0
          · rw [show thenD (syncD (appendD (createD (tidyD D nxN).1 nxN).1 nxN (frameL y)).1 nxN) _ = _ from if_pos z4]
            rcases rename_old (s2 z4) with ⟨r1, r2⟩ | r
            · exact .inl ⟨r1, r2⟩
            · exact .inr r
          · rw [show thenD (syncD (appendD (createD (tidyD D nxN).1 nxN).1 nxN (frameL y)).1 nxN) _ = _ from if_neg z4]
            exact .inr ⟨z4, s1⟩
        · rw [show thenD (appendD (createD (tidyD D nxN).1 nxN).1 nxN (frameL y)) _ = _ from if_neg z3]
          exact .inr ⟨z3, a1⟩
      · rw [show thenD (createD (tidyD D nxN).1 nxN) _ = _ from if_neg z2]
        exact .inr ⟨z2, c1⟩
    · rw [show thenD (tidyD D nxN) _ = _ from if_neg z1]
      exact .inr ⟨z1, t1⟩
  rw [e0]
  unfold undoD
  rcases key with ⟨k1, k2⟩ | ⟨k1, k2⟩
  · rw [if_pos (.inl k1)]; exact .inl ⟨k1, k2⟩
  · by_cases k3 : (triesD D nxN sN (frameL y)).2 = 13
    · rw [if_pos (.inr k3)]; exact .inr ⟨k1, k2⟩
    · rw [if_neg (fun e => e.elim k1 k3)]
      exact .inr ⟨k1, (tidy_old k2).1⟩
theorem boot_full (k : Int) (x : List Nat) : bootF k (fullF x) = fullF x := by
  unfold bootF leftF fullF
  simp
theorem boot_old {D : DA} {x : List Nat} (h : OldIs D x) (keep : List Int) : OldIs (bootD D keep).1 x := by
  unfold bootD
  split
  · rcases h with h | ⟨g, h⟩
    · refine .inl ?_
      dsimp only
      rw [h]
      show [(sN, bootF _ (fullF x))] = _
      rw [boot_full]
    · refine .inr ⟨bootF (keep.tail.headD 0) g, ?_⟩
      dsimp only
      rw [h]
      show [(sN, bootF _ (fullF x)), (nxN, _)] = _
      rw [boot_full]
  · exact h
theorem boot_calm {D : DA} (hd : D.down = true) (keep : List Int) : (bootD D keep).2 = 0 ∧ Calm (bootD D keep).1 := by
  unfold bootD
  rw [if_pos hd]
  exact ⟨rfl, ⟨rfl, rfl, rfl⟩⟩
theorem remove_calm {D : DA} (hc : Calm D) {s : ByteArray} (h : (getM D.L s).isSome = true) : (removeD D s).2 = 0 ∧ (removeD D s).1.down = false := by
  unfold removeD
  rw [hc.behind]
  rcases withF_get (s := s) (g := fun _ D => ({ D with L := delM D.L s }, 0)) (D := countedD D) with ⟨h1, _⟩ | ⟨f, _, e⟩
  · have e1 : (countedD D).L = D.L := rfl
    rw [e1] at h1
    rw [h1] at h
    cases h
  · rw [e]; exact ⟨rfl, hc.counted.down⟩
theorem tidy_calm {D : DA} (hc : Calm D) (s : ByteArray) : (tidyD D s).2 = 0 ∧ (tidyD D s).1.down = false := by
  unfold tidyD thereD
  rw [hc.down]
  cases h : (getM D.L s).isSome with
  | true => exact remove_calm hc h
  | false => exact ⟨rfl, hc.down⟩
theorem load_old {D : DA} {x : List Nat} (h : OldIs D x) (hc : Calm D) (hx : x.length ≤ 65536) :
    loadD D sN = ((tidyD D nxN).1, x, true, 0) ∧ (tidyD D nxN).1.L = [(sN, fullF x)] ∧ (tidyD D nxN).1.down = false := by
  obtain ⟨t1, t2⟩ := tidy_calm hc nxN
  have hL := (tidy_old h).2 hc.down t1
  have e := frame_first x [] hx
  have e2 := frame_size x [] hx
  have e3 := frame_pay x [] hx
  rw [List.append_nil] at e e2 e3
  refine ⟨?_, hL, t2⟩
  unfold loadD
  rw [if_neg (by rw [hc.down]; exact Bool.false_ne_true)]
  rw [show sN ++ nwN = nxN from rfl, if_pos t1, hL, getM_one]
  unfold loadF fullF
  dsimp only
  rw [if_pos ⟨e, by rw [e2, frameL_len]⟩, e3]
/-- ErrDown is answered only where the power has gone. -/
def DownErr (D : DA) (r : DA × Int) : Prop := r.1.failBy = D.failBy ∧ (D.failBy ≠ 13 → r.2 = 13 → r.1.down = true)
theorem beginD_dn (D : DA) : DownErr D (beginD D) := by
  unfold DownErr beginD
  by_cases h1 : D.down = true
  · rw [if_pos h1]; exact ⟨rfl, fun _ _ => h1⟩
  rw [if_neg h1]
  by_cases h2 : D.crashIn = 0
  · rw [if_pos h2]; exact ⟨rfl, fun _ _ => rfl⟩
  rw [if_neg h2]
  by_cases h3 : D.failIn = 0
  · rw [if_pos h3]; exact ⟨rfl, fun h e => absurd e h⟩
  · rw [if_neg h3]; exact ⟨rfl, fun _ e => by cases e⟩
theorem behind_dn {D : DA} {f : DA → DA × Int} (hf : ∀ D, DownErr D (f D)) : DownErr D (behindD D f) := by
  rcases behind_cases D f with ⟨e, _⟩ | ⟨e, _⟩
  · rw [e]
    have h1 := beginD_dn D
    have h2 := hf (beginD D).1
    exact ⟨h2.1.trans h1.1, fun h => h2.2 (by rw [h1.1]; exact h)⟩
  · rw [e]; exact beginD_dn D
theorem withF_dn {D : DA} {s : ByteArray} {g : PF → DA → DA × Int} (hg : ∀ f, DownErr D (g f D)) : DownErr D (withF s g D) := by
  rcases withF_get (s := s) (g := g) (D := D) with ⟨_, e⟩ | ⟨f, _, e⟩
  · rw [e]; exact ⟨rfl, fun _ e => by cases e⟩
  · rw [e]; exact hg f
theorem removeD_dn (D : DA) (s : ByteArray) : DownErr D (removeD D s) := behind_dn fun _ => withF_dn fun _ => ⟨rfl, fun _ e => by cases e⟩
theorem createD_dn (D : DA) (s : ByteArray) : DownErr D (createD D s) := behind_dn fun D => by
  unfold createF
  split
  · exact ⟨rfl, fun _ e => by cases e⟩
  split
  · exact ⟨rfl, fun _ e => by cases e⟩
  split
  · exact ⟨rfl, fun _ e => by cases e⟩
  · exact ⟨rfl, fun _ e => by cases e⟩
theorem appendD_dn (D : DA) (s : ByteArray) (b : List Nat) : DownErr D (appendD D s b) := behind_dn fun D => withF_dn fun f => by
  split
  · exact ⟨rfl, fun _ e => by cases e⟩
  · exact ⟨rfl, fun _ e => by cases e⟩
theorem syncD_dn (D : DA) (s : ByteArray) : DownErr D (syncD D s) := behind_dn fun _ => withF_dn fun _ => ⟨rfl, fun _ e => by cases e⟩
theorem renameD_dn (D : DA) (a c : ByteArray) : DownErr D (renameD D a c) := behind_dn fun D => by
  split
  · exact ⟨rfl, fun _ e => by cases e⟩
  · exact withF_dn fun _ => ⟨rfl, fun _ e => by cases e⟩
theorem tidyD_dn (D : DA) (s : ByteArray) : DownErr D (tidyD D s) := by
  unfold tidyD
  split
  · exact removeD_dn D s
  · exact ⟨rfl, fun _ e => by cases e⟩
theorem thenD_dn {D : DA} {r : DA × Int} {f : DA → DA × Int} (h : DownErr D r) (hf : ∀ D, DownErr D (f D)) : DownErr D (thenD r f) := by
  unfold thenD
  split
  · have h2 := hf r.1
    exact ⟨h2.1.trans h.1, fun x => h2.2 (by rw [h.1]; exact x)⟩
  · exact h
theorem saveD_dn (D : DA) (s : ByteArray) (l : List Nat) : DownErr D (saveD D s l) := by
  have ht : DownErr D (triesD D (s ++ nwN) s (frameL l)) :=
    thenD_dn (tidyD_dn D _) fun D => thenD_dn (createD_dn D _) fun D => thenD_dn (appendD_dn D _ _) fun D => thenD_dn (syncD_dn D _) fun D => renameD_dn D _ s
  unfold saveD
  split
  · exact ⟨rfl, fun _ e => by cases e⟩
  split
  · exact ⟨rfl, fun _ e => by cases e⟩
  unfold undoD
  split
  · exact ht
  · rename_i h1
    have h2 := tidyD_dn (triesD D (s ++ nwN) s (frameL l)).1 (s ++ nwN)
    exact ⟨h2.1.trans ht.1, fun _ e => absurd e (fun e => h1 (.inr e))⟩
/-- The first Save of all. -/
theorem save_new {D : DA} (hc : Calm D) (h0 : D.L = []) {x : List Nat} (hx : x.length ≤ 65536) :
    (D.cap < 9 + (x.length : Int) ∧ (saveD D sN x).2 = 12) ∨ ((saveD D sN x).2 = 0 ∧ (saveD D sN x).1.L = [(sN, fullF x)] ∧ Calm (saveD D sN x).1) := by
  have e0 : saveD D sN x = undoD (triesD D nxN sN (frameL x)) nxN := by
    unfold saveD
    rw [if_neg (by decide +kernel), if_neg (by omega)]
    rfl
  have e1 : tidyD D nxN = (D, 0) := by unfold tidyD thereD; rw [h0, hc.down]; rfl
  obtain ⟨c1, c2, c3, c4⟩ := create_calm h0 hc nxN_name
  have key : (D.cap < 9 + (x.length : Int) ∧ (triesD D nxN sN (frameL x)).2 = 12) ∨ ((triesD D nxN sN (frameL x)).2 = 0 ∧ (triesD D nxN sN (frameL x)).1.L = [(sN, fullF x)] ∧ Calm (triesD D nxN sN (frameL x)).1) := by
    unfold triesD
    rw [e1]
    rw [show thenD (D, 0) _ = _ from if_pos rfl]
    dsimp only
    rw [show thenD (createD D nxN) _ = _ from if_pos c1]
    rcases append_calm c2 c3 (frameL x) with ⟨a1, a2, _⟩ | ⟨a1, a2, a3⟩
    · rw [show thenD (appendD (createD D nxN).1 nxN (frameL x)) _ = _ from if_neg (by rw [a2]; decide)]
      refine .inl ⟨?_, a2⟩
      rw [c4, frameL_len] at a1
      simp only [List.length_nil] at a1
      omega
    · rw [show thenD (appendD (createD D nxN).1 nxN (frameL x)) _ = _ from if_pos a1]
      generalize appendD (createD D nxN).1 nxN (frameL x) = r at a1 a2 a3
      have hs : syncD r.1 nxN = ({ countedD r.1 with L := [(nxN, fullF x)] }, 0) := by
        unfold syncD
        rw [a3.behind]
        unfold withF
        have e3 : (countedD r.1).L = r.1.L := rfl
        rw [e3, a2, getM_one]
        dsimp only
        rw [e3, a2, putS_one]
        rfl
      rw [hs]
      rw [show thenD (({ countedD r.1 with L := [(nxN, fullF x)] } : DA), (0 : Int)) _ = _ from if_pos rfl]
      dsimp only
      have hc4 : Calm { countedD r.1 with L := [(nxN, fullF x)] } := ⟨a3.counted.down, a3.counted.fail, a3.counted.crash⟩
      refine .inr ?_
      unfold renameD
      rw [hc4.behind]
      dsimp only
      rw [sN_name]
      unfold withF
      have e4 : (countedD { countedD r.1 with L := [(nxN, fullF x)] }).L = [(nxN, fullF x)] := rfl
      rw [e4, getM_one]
      have hc5 := hc4.counted
      refine ⟨rfl, ?_, ⟨hc5.down, hc5.fail, hc5.crash⟩⟩
      show putS (delM (countedD { countedD r.1 with L := [(nxN, fullF x)] }).L nxN) sN (fullF x) = _
      rw [e4]
      have : delM [(nxN, fullF x)] nxN = [] := by simp [delM]
      rw [this]
      rfl
  rw [e0]
  unfold undoD
  rcases key with ⟨k1, k2⟩ | ⟨k1, k2, k3⟩
  · rw [if_neg (by rw [k2]; decide)]
    exact .inl ⟨k1, k2⟩
  · rw [if_pos (.inl k1)]
    exact .inr ⟨k1, k2, k3⟩
end Go.Proofs.YtficodklidaheaaDoor
/- Layer 20: Cost; awake. -/
namespace Go.Proofs.YtficodklidaheaaDoor
open Go.RowKit
attribute [local go_sem ↓] Go.wp_at_zero Go.wp_at_succ

theorem sCost_any (n : Int) (h0 : -9223372036854775808 ≤ n) (h1 : n ≤ 9223372036854775807) (w : World) :
    Calls Tryd.prog 71 #[.int .i64 n] w fun e w' => e = .returned (.int .i64 (sizeN n)) ∧ w = w' := by
  have HS := Lib.hid (size_any n h0 h1 w)
  obtain ⟨z, hz⟩ : ∃ z, z = sizeN n := ⟨_, rfl⟩
  rw [← hz] at HS ⊢
  clear hz h0 h1
  go_enter Tryd.func71, Tryd.ntmps71
  go_wp2_with fail
  refine HS.out.mono ?_
  rintro e w1 ⟨rfl, rfl⟩
  go_wp2
  go_ret
  exact ⟨rfl, rfl⟩
def tmR : List Nat := [116, 111, 111, 32, 109, 117, 99, 104, 32, 114, 111, 111, 109]
def av0 : DA := freshD 25 []
def av1 : DA := (saveD av0 sN [97]).1
def av2 : DA := (saveD av1 sN tmR).1
def av3 : DA := (loadD av2 sN).1
theorem av_new : newD [] 25 = some av0 := by kernel_rfl
theorem av_save : (saveD av0 sN [97]).2 = 0 := by kernel_rfl
theorem av_more : (saveD av1 sN tmR).2 = 12 := by kernel_rfl
theorem av_load : (loadD av2 sN).2 = ([97], true, 0) := by kernel_rfl
theorem av_used : usedA av3 = 10 := by kernel_rfl
theorem DK.keptNew2 {w wN w' : World} {db mb : Nat} {L : List (ByteArray × Fi)} {D : DA} (h : DK w.heap.size wN db mb L D) (hk : Kept (fun _ => False) w wN) (k : Kept (foot db mb L) wN w') : Kept (fun _ => False) w w' := hk.newer k (fun _ e => (h.lt e).2)
theorem nibs_pos2 {w : World} (h : Nibs w) : 0 < w.heap.size := World.block_lt_of_cell? w _ (h 0 (by omega))
theorem row8_fresh2 (w : World) (l : List Nat) (cs : Array Value) (fr : Nat × Nat) (n c : Nat) (hc : cs.toList = b8 l) (hn : l.length = n) (hb : ∀ x ∈ l, x < 256) : Row8 (w.alloc (.cells cs 5 fr)) (.slice (some ⟨w.heap.size, 0, none⟩) n c) l := by
  subst hn
  refine ⟨some ⟨w.heap.size, 0, none⟩, c, rfl, hb, fun j hj => ⟨_, rfl, ?_⟩⟩
  rw [addr_add0, cell_of_row _ _ j _ _ _ (heap_alloc_new w _), ← Array.getElem?_toList, hc]
  exact byV_get hj
theorem sn_str : strN [97] = { data := #[97] } := by kernel_rfl
set_option maxHeartbeats 8000000 in
set_option maxRecDepth 100000 in
theorem awake20_any (w : World) (HN : Nibs w) : Calls Tryd.prog 36 #[] w fun e w' => e = .returned (.bool true) ∧ Kept (fun _ => False) w w' := by
  have hb0 := nibs_pos2 HN
  have HNI := Lib.hid HN
  have HNEW := Lib.hid (dNew_any none 0 0 [] rfl 25 (by decide) w (fun h => absurd h (by simp)) (fun f hf => by cases hf))
  rw [show List.map AF.t [] = [] from rfl, av_new] at HNEW
  clear HN
  go_enter Tryd.func36, Tryd.ntmps36
  go_wp2_with fail
  refine HNEW.out.mono ?_
  rintro e w1 ⟨_, h2⟩
  obtain ⟨db, mb, L, rfl, h1, k1⟩ := h2 _ rfl
  obtain ⟨w2, hw2⟩ : ∃ w2, w2 = w1.alloc (.cells #[.int .u8 97] 5 (1, 2)) := ⟨_, rfl⟩
  have k2 : Kept (fun _ => False) w1 w2 := by rw [hw2]; exact (Kept.refl _ _).alloc _
  have HW2 := Lib.hid hw2
  have HK2 := Lib.hid (k1.trans k2)
  have HD2 := Lib.hid (h1.kept k2 (fun _ _ x => x))
  have HSV := Lib.hid (sSave_any w.heap.size db mb hb0 L av0 sN (by decide) (some ⟨w1.heap.size, 0, none⟩) 1 1 [97] rfl w2 HD2.out (by rw [hw2]; exact row8_fresh2 w1 _ _ _ 1 1 rfl rfl (by decide)) (HNI.out.kept HK2.out) (by decide))
  rw [show sN = { data := #[115] } from rfl] at HSV
  have hcv : (convert 22 22 (.slice (some ⟨w1.heap.size, 0, none⟩) 1 1)).run Tryd.prog (w1.alloc (.cells #[.int .u8 97] 5)) = .ok (.slice (some ⟨w1.heap.size, 0, none⟩) 1 1) (w1.alloc (.cells #[.int .u8 97] 5 (1, 2))) := Go.Joins.run_convert_bytes_const_at w1 22 5 _ _ _ _ (by simp) Tryd.underlying22 Tryd.underlying5
  clear h2 h1 k1 k2 hw2
  go_wp2_with fail
  rw [← HW2.out]
  refine HSV.out.mono ?_
  rintro e w3 ⟨L3, rfl, h3, k3, f3⟩
  rw [show (saveD av0 { data := #[115] } [97]).2 = 0 from av_save]
  have h3' : DK w.heap.size w3 db mb L3 av1 := h3
  have HK3 := Lib.hid (HD2.out.keptNew2 HK2.out k3)
  obtain ⟨w4, hw4⟩ : ∃ w4, w4 = w3.alloc (.cells #[.int .u8 116, .int .u8 111, .int .u8 111, .int .u8 32, .int .u8 109, .int .u8 117, .int .u8 99, .int .u8 104, .int .u8 32, .int .u8 114, .int .u8 111, .int .u8 111, .int .u8 109] 5 (13, 14)) := ⟨_, rfl⟩
  have k4 : Kept (fun _ => False) w3 w4 := by rw [hw4]; exact (Kept.refl _ _).alloc _
  have HW4 := Lib.hid hw4
  have HK4 := Lib.hid (HK3.out.trans k4)
  have HD4 := Lib.hid (h3'.kept k4 (fun _ _ x => x))
  have HSV2 := Lib.hid (sSave_any w.heap.size db mb hb0 L3 av1 sN (by decide) (some ⟨w3.heap.size, 0, none⟩) 13 13 tmR rfl w4 HD4.out (by rw [hw4]; exact row8_fresh2 w3 tmR _ _ 13 13 rfl rfl (by decide)) (HNI.out.kept HK4.out) (by decide))
  rw [show sN = { data := #[115] } from rfl] at HSV2
  have hcv : (convert 22 22 (.slice (some ⟨w3.heap.size, 0, none⟩) 13 13)).run Tryd.prog (w3.alloc (.cells #[.int .u8 116, .int .u8 111, .int .u8 111, .int .u8 32, .int .u8 109, .int .u8 117, .int .u8 99, .int .u8 104, .int .u8 32, .int .u8 114, .int .u8 111, .int .u8 111, .int .u8 109] 5)) = .ok (.slice (some ⟨w3.heap.size, 0, none⟩) 13 13) (w3.alloc (.cells #[.int .u8 116, .int .u8 111, .int .u8 111, .int .u8 32, .int .u8 109, .int .u8 117, .int .u8 99, .int .u8 104, .int .u8 32, .int .u8 114, .int .u8 111, .int .u8 111, .int .u8 109] 5 (13, 14))) := Go.Joins.run_convert_bytes_const_at w3 22 5 _ _ _ _ (by simp) Tryd.underlying22 Tryd.underlying5
  clear h3 h3' k3 f3 hw4 k4
  go_wp2_with fail
  rw [← HW4.out]
  refine HSV2.out.mono ?_
  rintro e w5 ⟨L5, rfl, h5, k5, f5⟩
  rw [show (saveD av1 { data := #[115] } tmR).2 = 12 from av_more]
  have h5' : DK w.heap.size w5 db mb L5 av2 := h5
  have HK5 := Lib.hid (HD4.out.keptNew2 HK4.out k5)
  have HD5 := Lib.hid h5'
  have HLD := Lib.hid (sLoad_any w.heap.size db mb hb0 L5 av2 sN (by decide) w5 h5' (HNI.out.kept HK5.out))
  rw [show sN = { data := #[115] } from rfl] at HLD
  clear h5 h5' k5 f5 hcv
  go_wp2_with fail
  refine HLD.out.mono ?_
  rintro e w6 ⟨L6, a6, c6, he, h6, k6, f6, hr6, _⟩
  rw [show (loadD av2 { data := #[115] }).2 = ([97], true, 0) from av_load] at he hr6
  subst he
  have hcv := conv8 hr6
  rw [sn_str] at hcv
  have HK6 := Lib.hid (HD5.out.keptNew2 HK5.out k6)
  have HUS := Lib.hid (dUsed_any w.heap.size db mb L6 av3 w6 h6)
  rw [av_used] at HUS
  have HCO := Lib.hid (sCost_any 1 (by omega) (by omega) w6)
  rw [show sizeN 1 = 10 from rfl] at HCO
  clear h6 k6 f6 hr6
  dsimp only [List.length_cons, List.length_nil] at hcv ⊢
  go_wp2_with fail
  refine HUS.out.mono ?_
  rintro e w7 ⟨rfl, rfl⟩
  go_wp2_with fail
  refine HCO.out.mono ?_
  rintro e w7 ⟨rfl, rfl⟩
  go_wp2
  go_ret
  exact ⟨rfl, HK6.out⟩
end Go.Proofs.YtficodklidaheaaDoor
