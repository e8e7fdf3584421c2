/- Layer 20 plainly: what Save and Load do. -/
import Derived.Test.YtficodklidaheaaDoorS0
import Derived.Test.YtficodklidaheaaDoorF17
namespace Go.Proofs.YtficodklidaheaaDoor
open Go.RowKit

/-- What stands behind the name of the new file. -/
def nwN : ByteArray := { data := #[46, 110, 101, 119] }
def thereD (D : DA) (s : ByteArray) : Bool := !D.down && (getM D.L s).isSome
def tidyD (D : DA) (s : ByteArray) : DA × Int := if thereD D s = true then removeD D s else (D, 0)
/-- One call behind another: only where the first one went well. -/
def thenD (r : DA × Int) (f : DA → DA × Int) : DA × Int := if r.2 = 0 then f r.1 else r
/-- The calls of Save. -/
def triesD (D : DA) (nx s : ByteArray) (b : List Nat) : DA × Int :=
  thenD (tidyD D nx) fun D => thenD (createD D nx) fun D => thenD (appendD D nx b) fun D => thenD (syncD D nx) fun D => renameD D nx s
/-- What is undone behind an error. -/
def undoD (r : DA × Int) (nx : ByteArray) : DA × Int := if r.2 = 0 ∨ r.2 = 13 then r else ((tidyD r.1 nx).1, r.2)
def saveD (D : DA) (s : ByteArray) (l : List Nat) : DA × Int :=
  if 28 < s.size then (D, 3) else if 65536 < l.length then (D, 4) else undoD (triesD D (s ++ nwN) s (frameL l)) (s ++ nwN)
/-- What a file's bytes are, loaded: the payload, whether it is there, an error. -/
def loadF : Option PF → List Nat × Bool × Int
  | none => ([], false, 0)
  | some f => if firstE f.b = 0 ∧ 9 + sizeL f.b = f.b.length then (payL f.b, true, 0) else ([], false, 15)
def loadD (D : DA) (s : ByteArray) : DA × List Nat × Bool × Int :=
  if D.down = true then (D, [], false, 13)
  else if (tidyD D (s ++ nwN)).2 = 0 then ((tidyD D (s ++ nwN)).1, loadF (getM (tidyD D (s ++ nwN)).1.L s)) else ((tidyD D (s ++ nwN)).1, [], false, (tidyD D (s ++ nwN)).2)

theorem tidyD_ok {D : DA} (h : DOk D) (s : ByteArray) : DOk (tidyD D s).1 := by
  unfold tidyD
  split
  · exact removeD_ok h s
  · exact h
theorem thenD_ok {r : DA × Int} {f : DA → DA × Int} (h : DOk r.1) (hf : ∀ D, DOk D → DOk (f D).1) : DOk (thenD r f).1 := by
  unfold thenD
  split
  · exact hf _ h
  · exact h
/-- Behind a call's error but ErrDown the disk is up. -/
def UpErr (r : DA × Int) : Prop := r.2 ≠ 0 → r.2 ≠ 13 → r.1.down = false
theorem beginD_up (D : DA) : UpErr (beginD D) ∧ ((beginD D).2 = 0 → (beginD D).1.down = false) := by
  unfold UpErr beginD
  by_cases h1 : D.down = true
  · rw [if_pos h1]; exact ⟨fun _ h => absurd rfl h, fun h => by cases h⟩
  rw [if_neg h1]
  have hd : (countedD D).down = false := by
    show D.down = false
    cases hx : D.down
    · rfl
    · exact absurd hx h1
  by_cases h2 : D.crashIn = 0
  · rw [if_pos h2]; exact ⟨fun _ h => absurd rfl h, fun h => by cases h⟩
  rw [if_neg h2]
  by_cases h3 : D.failIn = 0
  · rw [if_pos h3]; exact ⟨fun _ _ => hd, fun _ => hd⟩
  · rw [if_neg h3]; exact ⟨fun _ _ => hd, fun _ => hd⟩
theorem behindD_up {D : DA} {f : DA → DA × Int} (hf : ∀ D, D.down = false → UpErr (f D)) : UpErr (behindD D f) := by
  unfold behindD
  by_cases h : (beginD D).2 = 0
  · rw [if_pos h]; exact hf _ ((beginD_up D).2 h)
  · rw [if_neg h]; exact (beginD_up D).1
theorem withF_up {D : DA} {s : ByteArray} {g : PF → DA → DA × Int} (hd : D.down = false) (hg : ∀ f, UpErr (g f D)) : UpErr (withF s g D) := by
  unfold withF
  split
  · exact fun _ _ => hd
  · exact hg _
theorem removeD_up (D : DA) (s : ByteArray) : UpErr (removeD D s) := behindD_up fun _ hd => withF_up hd fun _ h => absurd rfl h
theorem createD_up (D : DA) (s : ByteArray) : UpErr (createD D s) := behindD_up fun D hd => by
  unfold createF
  split
  · exact fun _ _ => hd
  split
  · exact fun _ _ => hd
  split
  · exact fun _ _ => hd
  · exact fun h => absurd rfl h
theorem appendD_up (D : DA) (s : ByteArray) (b : List Nat) : UpErr (appendD D s b) := behindD_up fun D hd => withF_up hd fun f => by
  split
  · exact fun _ _ => hd
  · exact fun h => absurd rfl h
theorem syncD_up (D : DA) (s : ByteArray) : UpErr (syncD D s) := behindD_up fun _ hd => withF_up hd fun _ h => absurd rfl h
theorem renameD_up (D : DA) (a c : ByteArray) : UpErr (renameD D a c) := behindD_up fun D hd => by
  split
  · exact fun _ _ => hd
  · exact withF_up hd fun _ h => absurd rfl h
theorem tidyD_up (D : DA) (s : ByteArray) : UpErr (tidyD D s) := by
  unfold tidyD
  split
  · exact removeD_up D s
  · exact fun h => absurd rfl h
theorem thenD_up {r : DA × Int} {f : DA → DA × Int} (h : UpErr r) (hf : ∀ D, UpErr (f D)) : UpErr (thenD r f) := by
  unfold thenD
  split
  · exact hf _
  · exact h
theorem triesD_up (D : DA) (nx s : ByteArray) (b : List Nat) : UpErr (triesD D nx s b) :=
  thenD_up (tidyD_up D nx) fun D => thenD_up (createD_up D nx) fun D => thenD_up (appendD_up D nx b) fun D => thenD_up (syncD_up D nx) fun D => renameD_up D nx s
theorem triesD_ok {D : DA} (h : DOk D) (nx s : ByteArray) {b : List Nat} (hb : ∀ x ∈ b, x < 256) : DOk (triesD D nx s b).1 :=
  thenD_ok (tidyD_ok h nx) fun _ h => thenD_ok (createD_ok h nx) fun _ h => thenD_ok (appendD_ok h nx hb) fun _ h => thenD_ok (syncD_ok h nx) fun _ h => renameD_ok h nx s
theorem undoD_ok {r : DA × Int} (h : DOk r.1) (nx : ByteArray) : DOk (undoD r nx).1 := by
  unfold undoD
  split
  · exact h
  · exact tidyD_ok h nx
end Go.Proofs.YtficodklidaheaaDoor
