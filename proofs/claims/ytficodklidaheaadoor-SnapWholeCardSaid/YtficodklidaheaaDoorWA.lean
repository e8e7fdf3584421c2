/- Layer 19 plainly: a disk of one file, whose bytes are frames one behind the other. -/
import Derived.Test.YtficodklidaheaaDoorS0
import Derived.Test.YtficodklidaheaaDoorF17
namespace Go.Proofs.YtficodklidaheaaDoor
open Go.RowKit

theorem putS_one {α : Type} (s : ByteArray) (f g : α) : putS [(s, f)] s g = [(s, g)] := by simp [putS, ltN_irrefl]
theorem putS_nil {α : Type} (s : ByteArray) (g : α) : putS [] s g = [(s, g)] := rfl
theorem getM_one {α : Type} (s : ByteArray) (f : α) : getM [(s, f)] s = some f := by simp [getM]
/-- A disk that won't fail. -/
structure Calm (D : DA) : Prop where
  down : D.down = false
  fail : D.failIn = -1
  crash : D.crashIn = -1
theorem Calm.begin {D : DA} (h : Calm D) : beginD D = (countedD D, 0) := by
  unfold beginD
  rw [h.down, h.crash, h.fail]
  rfl
theorem Calm.counted {D : DA} (h : Calm D) : Calm (countedD D) := ⟨h.down, by unfold countedD; rw [h.fail]; rfl, by unfold countedD; rw [h.crash]; rfl⟩
theorem Calm.behind {D : DA} (h : Calm D) (f : DA → DA × Int) : behindD D f = f (countedD D) := by unfold behindD; rw [h.begin]; rfl
/-- What a call's beginning leaves, if no call is to fail. -/
theorem beginD_one {D : DA} (hf : D.failIn = -1) : ((beginD D).2 = 0 ∨ (beginD D).2 = 13) ∧ (beginD D).1.L = D.L ∧ (beginD D).1.cap = D.cap ∧ (beginD D).1.failIn = -1 ∧ ((beginD D).2 = 13 → (beginD D).1.down = true) := by
  unfold beginD
  by_cases h1 : D.down = true
  · rw [if_pos h1]; exact ⟨.inr rfl, rfl, rfl, hf, fun _ => h1⟩
  rw [if_neg h1]
  have e1 : (countedD D).failIn = -1 := by unfold countedD; rw [hf]; rfl
  by_cases h2 : D.crashIn = 0
  · rw [if_pos h2]; exact ⟨.inr rfl, rfl, rfl, e1, fun _ => rfl⟩
  rw [if_neg h2, if_neg (by omega)]
  exact ⟨.inl rfl, rfl, rfl, e1, fun h => by cases h⟩
theorem behind_one {D : DA} (hf : D.failIn = -1) (f : DA → DA × Int) : (behindD D f = f (beginD D).1 ∧ (beginD D).2 = 0) ∨ (behindD D f = beginD D ∧ (beginD D).2 = 13) := by
  unfold behindD
  rcases (beginD_one hf).1 with h | h
  · exact .inl ⟨if_pos h, h⟩
  · exact .inr ⟨if_neg (by omega), h⟩
theorem append_one {D : DA} {s : ByteArray} {f : PF} (h : D.L = [(s, f)]) (hf : D.failIn = -1) (b : List Nat) :
    (((appendD D s b).2 = 0 ∧ (appendD D s b).1.L = [(s, ⟨f.b ++ b, f.s⟩)]) ∨ (((appendD D s b).2 = 12 ∨ (appendD D s b).2 = 13) ∧ (appendD D s b).1.L = [(s, f)])) ∧ (appendD D s b).1.failIn = -1 ∧ (appendD D s b).1.cap = D.cap := by
  obtain ⟨_, h2, h3, h4, _⟩ := beginD_one hf
  unfold appendD
  rcases behind_one hf (withF s fun f D => if D.cap - usedL D.L < (b.length : Int) then (D, 12) else ({ D with L := putS D.L s ⟨f.b ++ b, f.s⟩ }, 0)) with ⟨e, _⟩ | ⟨e, e2⟩
  · rw [e]
    unfold withF
    rw [h2, h, getM_one]
    dsimp only
    split
    · exact ⟨.inr ⟨.inl rfl, by rw [h2, h]⟩, h4, h3⟩
    · exact ⟨.inl ⟨rfl, by dsimp only; rw [h2, h, putS_one]⟩, h4, h3⟩
  · rw [e]
    exact ⟨.inr ⟨.inr e2, by rw [h2, h]⟩, h4, h3⟩
theorem sync_one {D : DA} {s : ByteArray} {f : PF} (h : D.L = [(s, f)]) (hf : D.failIn = -1) :
    (((syncD D s).2 = 0 ∧ (syncD D s).1.L = [(s, ⟨f.b, f.b.length⟩)]) ∨ ((syncD D s).2 = 13 ∧ (syncD D s).1.L = [(s, f)])) ∧ (syncD D s).1.failIn = -1 ∧ (syncD D s).1.cap = D.cap := by
  obtain ⟨_, h2, h3, h4, _⟩ := beginD_one hf
  unfold syncD
  rcases behind_one hf (withF s fun f D => ({ D with L := putS D.L s ⟨f.b, f.b.length⟩ }, 0)) with ⟨e, _⟩ | ⟨e, e2⟩
  · rw [e]
    unfold withF
    rw [h2, h, getM_one]
    exact ⟨.inl ⟨rfl, by dsimp only; rw [h2, h, putS_one]⟩, h4, h3⟩
  · rw [e]
    exact ⟨.inr ⟨e2, by rw [h2, h]⟩, h4, h3⟩
theorem append_calm {D : DA} {s : ByteArray} {f : PF} (h : D.L = [(s, f)]) (hc : Calm D) (b : List Nat) :
    (D.cap - f.b.length < (b.length : Int) ∧ (appendD D s b).2 = 12 ∧ (appendD D s b).1.L = [(s, f)] ∧ Calm (appendD D s b).1) ∨ (appendD D s b).2 = 0 ∧ (appendD D s b).1.L = [(s, ⟨f.b ++ b, f.s⟩)] ∧ Calm (appendD D s b).1 := by
  unfold appendD
  rw [hc.behind]
  unfold withF
  have e1 : (countedD D).L = D.L := rfl
  rw [e1, h, getM_one]
  have e2 : usedL [(s, f)] = f.b.length := by simp [usedL]
  dsimp only
  rw [e1, h, e2]
  have e3 : (countedD D).cap = D.cap := rfl
  rw [e3]
  by_cases hs : D.cap - (f.b.length : Int) < (b.length : Int)
  · rw [if_pos hs]
    exact .inl ⟨hs, rfl, by rw [e1, h], hc.counted⟩
  · rw [if_neg hs]
    exact .inr ⟨rfl, by dsimp only; rw [putS_one], ⟨hc.counted.down, hc.counted.fail, hc.counted.crash⟩⟩
theorem cut_calm {D : DA} {s : ByteArray} {f : PF} (h : D.L = [(s, f)]) (hc : Calm D) {n : Nat} (hn : n ≤ f.b.length) :
    (cutD D s n).2 = 0 ∧ (cutD D s n).1.L = [(s, cutF f n)] ∧ Calm (cutD D s n).1 ∧ (cutD D s n).1.cap = D.cap := by
  unfold cutD
  rw [hc.behind]
  unfold withF
  have e1 : (countedD D).L = D.L := rfl
  rw [e1, h, getM_one]
  dsimp only
  rw [if_neg (by omega), e1, h, putS_one]
  exact ⟨rfl, by rw [Int.toNat_natCast], ⟨hc.counted.down, hc.counted.fail, hc.counted.crash⟩, rfl⟩
theorem create_calm {D : DA} {s : ByteArray} (h : D.L = []) (hc : Calm D) (hn : nameB s = true) :
    (createD D s).2 = 0 ∧ (createD D s).1.L = [(s, ⟨[], 0⟩)] ∧ Calm (createD D s).1 ∧ (createD D s).1.cap = D.cap := by
  unfold createD
  rw [hc.behind]
  unfold createF
  have e1 : (countedD D).L = D.L := rfl
  rw [hn, e1, h]
  exact ⟨rfl, rfl, ⟨hc.counted.down, hc.counted.fail, hc.counted.crash⟩, rfl⟩
theorem create_bad {D : DA} {s : ByteArray} (hc : Calm D) (hn : nameB s = false) : createD D s = (countedD D, 3) := by
  unfold createD
  rw [hc.behind]
  unfold createF
  rw [hn]
  rfl
theorem boot_one {D : DA} {s : ByteArray} {f : PF} (h : D.L = [(s, f)]) (hd : D.down = true) (keep : List Int) :
    (bootD D keep).2 = 0 ∧ (bootD D keep).1.L = [(s, bootF (keep.headD 0) f)] ∧ Calm (bootD D keep).1 ∧ (bootD D keep).1.cap = D.cap := by
  unfold bootD
  rw [if_pos hd]
  exact ⟨rfl, by dsimp only; rw [h]; rfl, ⟨rfl, rfl, rfl⟩, rfl⟩
/-- How many bytes the first records have, framed. -/
def enL (Ls : List (List Nat)) (m : Nat) : Nat := (allL (Ls.take m)).length
theorem enL_mono (Ls : List (List Nat)) {a b : Nat} (h : a ≤ b) : enL Ls a ≤ enL Ls b := by
  unfold enL
  have : Ls.take b = Ls.take a ++ (Ls.take b).drop a := by
    conv => lhs; rw [← List.take_append_drop a (Ls.take b)]
    rw [List.take_take, Nat.min_eq_left h]
  rw [this, allL_append, List.length_append]
  omega
theorem enL_all (Ls : List (List Nat)) : enL Ls Ls.length = (allL Ls).length := by unfold enL; rw [List.take_length]
/-- The greatest number of frames within so many bytes. -/
theorem enL_cut (Ls : List (List Nat)) (k : Nat) : ∃ m, m ≤ Ls.length ∧ enL Ls m ≤ k ∧ ∀ q, q ≤ Ls.length → m < q → k < enL Ls q := by
  have key : ∀ n, n ≤ Ls.length → ∃ m, m ≤ n ∧ enL Ls m ≤ k ∧ ∀ q, q ≤ n → m < q → k < enL Ls q := by
    intro n
    induction n with
    | zero => intro _; exact ⟨0, Nat.le_refl _, by simp [enL, allL], fun q h1 h2 => by omega⟩
    | succ n ih =>
      intro hn
      by_cases h : enL Ls (n + 1) ≤ k
      · exact ⟨n + 1, Nat.le_refl _, h, fun q h1 h2 => by omega⟩
      · obtain ⟨m, h1, h2, h3⟩ := ih (by omega)
        refine ⟨m, by omega, h2, fun q hq hm => ?_⟩
        by_cases e : q = n + 1
        · rw [e]; omega
        · exact h3 q (by omega) hm
  exact key _ (Nat.le_refl _)
/-- What is read of frames that were cut off: all that lie whole within. -/
theorem wal_cut (Ls : List (List Nat)) (hl : ∀ l ∈ Ls, l.length ≤ 65536) {k sure : Nat} (hk : k ≤ (allL Ls).length) (hs : sure ≤ Ls.length) (hs2 : enL Ls sure ≤ k) :
    ∃ m e, m ≤ Ls.length ∧ sure ≤ m ∧ ScanR ((allL Ls).take k) (Ls.take m) (enL Ls m) e ∧ (e = 0 ∨ e = 2) ∧ enL Ls m ≤ k := by
  obtain ⟨m, h1, h2, h3⟩ := enL_cut Ls k
  obtain ⟨e, h4, h5⟩ := scan_cut Ls hl k m h1 h2 hk h3
  refine ⟨m, e, h1, ?_, h4, h5.imp (·.1) (·.1), h2⟩
  rcases Nat.lt_or_ge m sure with h | h
  · have := h3 sure hs h; omega
  · exact h
theorem scan_all (Ls : List (List Nat)) (hl : ∀ l ∈ Ls, l.length ≤ 65536) : ScanR (allL Ls) Ls (allL Ls).length 0 := by
  have := scan_frames Ls hl [] [] 0 0 .done
  simpa using this
end Go.Proofs.YtficodklidaheaaDoor
