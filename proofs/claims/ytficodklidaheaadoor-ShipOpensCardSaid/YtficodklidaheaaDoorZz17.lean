/- Texts put together: SFr, X6, WC, IterLay. -/
import Derived.Test.YtficodklidaheaaDoorZz2
import Derived.Lib.SmallJoins
import Derived.Test.YtficodklidaheaaDoorZz5
import Derived.Test.YtficodklidaheaaDoorZz14
import Derived.Test.YtficodklidaheaaDoorZz15
import Derived.Test.YtficodklidaheaaDoorZz16
import Derived.Deep.Strs
import Derived.Deep.Slices
import Derived.Deep.Fields
import Derived.ChangeSame
import Derived.Test.YtficodklidaheaaDoorZz9
import Derived.Test.YtficodklidaheaaDoorZz12
import Derived.Shelf.SlIter.Nil
import Derived.Shelf.SortM.Plain
import Derived.Shelf.SortM.SortNone
import Derived.Ground.GgzProg
import Derived.Ground.SlgmProg
import Derived.Test.YtficodklidaheaaDoorProg
/- Slices that were just made. -/
namespace Go.Proofs.YtficodklidaheaaDoor
open Go.RowKit

theorem run_make1 {P : Program} {t e : TypeId} {i : TypeInfo} {z : Value} (ht : P.underlying t = some (.slice e)) (hi : P.info? e = some i) (hz : i.zero = some z) (hs : i.size = 1) (hzc : z.cells = #[z]) (hb : i.bytes ≤ 64) (n : Nat) (hn : n ≤ 1000000) (w : World) :
    (Instr.makeSlice t (.int .i64 (n : Int)) (.int .i64 (n : Int))).run P w = .ok (.slice (some ⟨w.heap.size, 0, none⟩) n n) (w.alloc (.cells (Array.replicate n z) e)) := by
  have hbn : (i.bytes : Int) * (n : Int) ≤ 64 * 1000000 := by
    have : i.bytes * n ≤ 64 * 1000000 := Nat.mul_le_mul hb hn
    have h2 : ((i.bytes * n : Nat) : Int) ≤ 64 * 1000000 := by omega
    rwa [Int.natCast_mul] at h2
  have hr := run_makeSlice (P := P) w t e i z ht hi hz .i64 .i64 (n : Int) (n : Int) (by omega) (Int.le_refl _) (by rw [hs]; omega) (by omega) (by omega)
  rw [hr]
  simp only [Int.toNat_natCast]
  have e : madeCells z.cells (n * i.size) = Array.replicate n z := by
    rw [hs, Nat.mul_one, hzc]
    apply Array.toList_inj.1
    rw [toList_madeCells_one]; simp
  rw [e]
theorem slAt_fresh (w : World) (T : TypeId) (xs : List Value) (cs : Array Value) (fr : Nat × Nat) (n c : Nat) (hc : cs.toList = xs) (hn : xs.length = n) : SlAt (w.alloc (.cells cs T fr)) (.slice (some ⟨w.heap.size, 0, none⟩) n c) xs := by
  refine ⟨some ⟨w.heap.size, 0, none⟩, c, by rw [hn], fun e => (by cases e), fun a e j u hu => ?_⟩
  injection e with e
  subst e
  rw [addr_add0, cell_of_row _ _ j _ _ _ (heap_alloc_new w _), ← Array.getElem?_toList, hc]
  exact hu
end Go.Proofs.YtficodklidaheaaDoor
/- Layer 25: spans that came in; what is due; plain facts of a disk of a thousand. -/
namespace Go.Proofs.YtficodklidaheaaDoor
open Go.ChangeShapes Go.WideShapes Go.ChangeAt Go.Deep Go.RowKit
attribute [local go_sem ↓] Go.wp_at_zero Go.wp_at_succ

structure SpansIn (W : World) (ao : Option Addr) (L : List (Int × Int)) : Prop where
  at_ : GAt cellsSp 2 W ao L
  ok : ∀ x ∈ L, I64 x.1 ∧ I64 x.2
theorem span_cells {H : Type} {enc : TypeId × Value → H} {W : World} {sp n : Nat} {c0 c1 : Value} {y : DataW H × List MemPlace} (hf : DataW.trod enc Tryd.prog W sp (fun _ => true) true n 98 [c0, c1] = some y) :
    ∃ x : Int × Int, [c0, c1] = cellsSp x ∧ I64 x.1 ∧ I64 x.2 := by
  obtain ⟨y0, y1, m, _, _, h0, h1⟩ := trod_struct2 Tryd.underlying98 (cs := [c0, c1]) hf
  have k0 : Tryd.prog.cellsOf 3 = 1 := by kernel_rfl
  simp only [k0, List.drop_zero, List.drop_succ_cons, List.take_succ_cons, List.take_zero] at h0 h1
  obtain ⟨a0, rfl, w0⟩ := trod_i64 Tryd.underlying3 h0
  obtain ⟨a1, rfl, w1⟩ := trod_i64 Tryd.underlying3 h1
  exact ⟨(a0, a1), rfl, bd_i64 w0, bd_i64 w1⟩
set_option maxRecDepth 100000 in
theorem spans_of {H : Type} {enc : TypeId × Value → H} {W : World} {sp : Nat} {a : Option Addr} {len cap : Nat} {d : DataW H} {p : List MemPlace}
    (h : DataW.Trod enc Tryd.prog W sp (fun _ => true) true 94 (.slice a len cap) d p) : ∃ L : List (Int × Int), L.length = len ∧ SpansIn W a L ∧ len ≤ cap ∧ len ≤ 9223372036854775807 := by
  obtain ⟨fuel, hf⟩ := h
  have k6 : Tryd.prog.cellsOf 98 = 2 := by kernel_rfl
  rcases open_slice Tryd.underlying94 hf with ⟨hcs, _⟩ | ⟨x, l, c, m, n, D, Pl, hcs, _, hl, hm, hmm, _, hi⟩
  · simp [Value.cells] at hcs
    obtain ⟨rfl, rfl, rfl⟩ := hcs
    exact ⟨[], rfl, ⟨fun h => absurd h (by simp), fun p hp => (by cases hp)⟩, Nat.le_refl _, by omega⟩
  · simp [Value.cells] at hcs
    obtain ⟨rfl, rfl, rfl⟩ := hcs
    unfold maxLen at hm
    rcases Nat.eq_zero_or_pos len with h0 | h0
    · subst h0
      exact ⟨[], rfl, ⟨fun h => absurd h (by simp), fun p hp => (by cases hp)⟩, by omega, by omega⟩
    · have key0 : ∀ i, i < len → ∃ q : Int × Int, (∀ j u, (cellsSp q)[j]? = some u → W.cell? (x.add (i * 2 + j)) = some u) ∧ (I64 q.1 ∧ I64 q.2) := by
        intro i hi'
        obtain ⟨cs', hc, ht'⟩ := hi i (by simp at hmm; omega)
        rw [k6] at hc
        obtain ⟨hlen, hcl, hat⟩ := World.cells?_some hc
        match cs', hcl with
        | [c0, c1], _ =>
          obtain ⟨q, e, hq⟩ := span_cells ht'
          refine ⟨q, fun j u hj => ?_, hq⟩
          rw [← e] at hj
          have hj2 : j < 2 := by
            have := (List.getElem?_eq_some_iff.1 hj).1
            simpa using this
          have := hat j hj2
          rw [Go.Deep.add_add] at this
          rw [this]
          exact hj
      obtain ⟨g, o, spot⟩ := x
      have hspot : spot = Option.none := by
        obtain ⟨q, hq, _⟩ := key0 0 h0
        have c0 := hq 0 _ rfl
        simpa [Addr.add] using World.cell?_spot c0
      subst hspot
      have key : ∀ i, i < len → ∃ q : Int × Int, (∀ j u, (cellsSp q)[j]? = some u → W.cell? ⟨g, o + i * 2 + j, none⟩ = some u) ∧ (I64 q.1 ∧ I64 q.2) := by
        intro i hi'
        obtain ⟨q, hq, h1⟩ := key0 i hi'
        refine ⟨q, fun j u hj => ?_, h1⟩
        have := hq j u hj
        rwa [Go.WideShapes.add_plain, ← Nat.add_assoc] at this
      obtain ⟨rs, hrs, hp⟩ := choose_list key
      refine ⟨rs, hrs, ⟨fun _ => ⟨g, o, rfl, fun i p hi => (hp i p hi).1⟩, fun p hpm => ?_⟩, hl, by omega⟩
      obtain ⟨i, hi, e⟩ := List.getElem_of_mem hpm
      exact (hp i p (by rw [List.getElem?_eq_getElem hi, e])).2

/-- What is to be sent. -/
def dueL (ack win : Int) (L : List (Int × Int)) : List (Int × Int) := (L.filter fun x => decide (ack < x.2)).take win.toNat
theorem dueL_succ {ack win : Int} {L : List (Int × Int)} {i : Nat} {x : Int × Int} (h : L[i]? = some x) :
    dueL ack win (L.take (i + 1)) = dueL ack win (L.take i) ++ if ack < x.2 ∧ ((dueL ack win (L.take i)).length : Int) < win then [x] else [] := by
  unfold dueL
  rw [List.take_add_one, h, List.filter_append, List.take_append, List.length_take]
  generalize List.filter (fun x => decide (ack < x.2)) (List.take i L) = A
  congr 1
  by_cases e : ack < x.2
  · by_cases e2 : A.length < win.toNat
    · rw [if_pos ⟨e, by omega⟩]
      simp only [Option.toList_some, List.filter_cons, List.filter_nil, e, decide_true, if_true]
      exact List.take_of_length_le (by simp; omega)
    · rw [if_neg (fun h => by have := h.2; omega), show win.toNat - A.length = 0 by omega, List.take_zero]
  · rw [if_neg (fun h => e h.1)]
    simp [e]
theorem dueL_stop {ack win : Int} (L : List (Int × Int)) (i : Nat) (h : win ≤ ((dueL ack win (L.take i)).length : Int)) : dueL ack win L = dueL ack win (L.take i) := by
  unfold dueL at h ⊢
  conv => lhs; rw [← List.take_append_drop i L]
  rw [List.filter_append, List.take_append]
  rw [List.length_take] at h
  generalize List.filter (fun x => decide (ack < x.2)) (List.take i L) = A at h ⊢
  rw [show win.toNat - A.length = 0 by omega, List.take_zero, List.append_nil]
theorem dueL_len (ack win : Int) (L : List (Int × Int)) (i : Nat) : (dueL ack win (L.take i)).length ≤ i := by
  unfold dueL
  have := List.length_filter_le (fun x : Int × Int => decide (ack < x.2)) (L.take i)
  rw [List.length_take] at this ⊢
  omega

def nxAck : ByteArray := { data := #[97, 99, 107, 46, 110, 101, 119] }
def sd0 : DA := freshD 1000 []
def sd1 : DA := (createD sd0 nxAck).1
theorem sd_name : nmAck ++ nwN = nxAck := by kernel_rfl
theorem sd_new : newD [] 1000 = some sd0 := by kernel_rfl
theorem sd_load : loadD sd0 nmAck = (sd0, [], false, 0) := by kernel_rfl
theorem sd_open : openSh sd0 = (sd0, some 0, 0) := by kernel_rfl
theorem sd_create : createD sd0 nxAck = (sd1, 0) := by kernel_rfl
def sd2 (F : List Nat) : DA := { countedD sd1 with L := [(nxAck, ⟨F, 0⟩)] }
def sd3 (F : List Nat) : DA := { countedD (sd2 F) with L := [(nxAck, ⟨F, F.length⟩)] }
theorem sd_append (F : List Nat) (h : F.length = 17) : appendD sd1 nxAck F = (sd2 F, 0) := by
  have e : appendD sd1 nxAck F = if (1000 : Int) < (F.length : Int) then (countedD sd1, 12) else (sd2 F, 0) := by kernel_rfl
  rw [e, if_neg (by omega)]
theorem sd_sync (F : List Nat) : syncD (sd2 F) nxAck = (sd3 F, 0) := by kernel_rfl
theorem sd_rename (F : List Nat) : (renameD (sd3 F) nxAck nmAck).2 = 0 := by kernel_rfl
theorem sd_save (l : List Nat) (h : l.length = 8) : (saveD sd0 nmAck l).2 = 0 := by
  have hF : (frameL l).length = 17 := by
    have := frameL_len l
    rw [h] at this
    exact this
  unfold saveD
  rw [if_neg (by decide), if_neg (by omega), sd_name]
  have ht : (triesD sd0 nxAck nmAck (frameL l)).2 = 0 := by
    unfold triesD
    rw [show tidyD sd0 nxAck = (sd0, 0) by kernel_rfl]
    unfold thenD
    simp only [if_true, sd_create, sd_append _ hF, sd_sync, sd_rename]
  unfold undoD
  rw [if_pos (.inl ht)]
  exact ht
theorem natL_fix (x : Int) : (natL (fixB x)).length = 8 := by unfold natL fixB; simp
theorem sd_take (a : Int) (h : 0 < a ∧ a ≤ 4503599627370496) : (takeSh sd0 0 a 4503599627370496).2 = (a, true, 0) := by
  unfold takeSh
  rw [if_neg (by omega)]
  unfold takeF
  rw [if_neg (by rw [sd_save _ (natL_fix _)]; simp)]
theorem sd_take0 (a : Int) (h : a ≤ 0 ∨ 4503599627370496 < a) : takeSh sd0 0 a 4503599627370496 = (sd0, 0, false, 0) := by
  unfold takeSh
  rw [if_pos h]
/-- The disk with one file. -/
def sf0 (b : List Nat) : DA := freshD 1000 [(nmAck, ⟨b, b.length⟩)]
theorem sf_new (b : List Nat) (h : b.length ≤ 300) : newD [(nmAck, b)] 1000 = some (sf0 b) := by
  have e : newD [(nmAck, b)] 1000 = (if (nameB nmAck = false ∨ (getM ([] : List (ByteArray × PF)) nmAck).isSome = true ∨ (1000 : Int) - usedL [] < (b.length : Int)) then none else some [(nmAck, (⟨b, b.length⟩ : PF))]).map fun L => ⟨L, 1000, false, 0, -1, 0, -1⟩ := rfl
  rw [e, if_neg (by
    rintro (h1 | h1 | h1)
    · rw [show nameB nmAck = true by kernel_rfl] at h1; cases h1
    · cases h1
    · have : usedL [] = 0 := rfl
      rw [this] at h1
      omega)]
  rfl
theorem sf_load (b : List Nat) : loadD (sf0 b) nmAck = (sf0 b, loadF (some ⟨b, b.length⟩)) := rfl
end Go.Proofs.YtficodklidaheaaDoor
/- Layer 20 plainly: whenever the power goes while something is saved. -/
namespace Go.Proofs.YtficodklidaheaaDoor
open Go.RowKit

def sN : ByteArray := { data := #[115] }
def nxN : ByteArray := sN ++ nwN
theorem nxN_eq : nxN = { data := #[115, 46, 110, 101, 119] } := by decide +kernel
theorem sN_lt : ltN sN nxN = true := by rw [nxN_eq]; decide +kernel
theorem nxN_lt : ltN nxN sN = false := ltN_asym sN_lt
theorem sN_ne : sN ≠ nxN := ltN_ne sN_lt
theorem nxN_name : nameB nxN = true := by rw [nxN_eq]; decide +kernel
theorem sN_name : nameB sN = true := by decide +kernel
/-- A file that is a payload's frame, all of it sure. -/
def fullF (x : List Nat) : PF := ⟨frameL x, (frameL x).length⟩
theorem two_get (a g : PF) : getM [(sN, a), (nxN, g)] nxN = some g ∧ getM [(sN, a), (nxN, g)] sN = some a ∧ getM [(sN, a)] nxN = none := by
  refine ⟨?_, ?_, ?_⟩
  · simp [getM, sN_ne]
  · simp [getM]
  · simp [getM, sN_ne]
theorem two_put (a g h : PF) : putS [(sN, a), (nxN, g)] nxN h = [(sN, a), (nxN, h)] ∧ putS [(sN, a)] nxN h = [(sN, a), (nxN, h)] := by
  refine ⟨?_, ?_⟩
  · simp [putS, sN_lt, nxN_lt, ltN_irrefl]
  · simp [putS, sN_lt, nxN_lt]
theorem two_del (a g : PF) : delM [(sN, a), (nxN, g)] nxN = [(sN, a)] := by
  simp [delM, sN_ne]
theorem one_del (a : PF) (h : PF) : putS [(sN, a)] sN h = [(sN, h)] := putS_one _ _ _
/-- The old payload is there; beside it the new file, perhaps. -/
def OldIs (D : DA) (x : List Nat) : Prop := D.L = [(sN, fullF x)] ∨ ∃ g, D.L = [(sN, fullF x), (nxN, g)]
theorem beginD_old {D : DA} {x : List Nat} (h : OldIs D x) : OldIs (beginD D).1 x := by unfold OldIs; rw [(beginD_L D).1]; exact h
theorem behind_cases (D : DA) (f : DA → DA × Int) : (behindD D f = f (beginD D).1 ∧ (beginD D).2 = 0) ∨ (behindD D f = beginD D ∧ (beginD D).2 ≠ 0) := by
  unfold behindD
  by_cases h : (beginD D).2 = 0
  · exact .inl ⟨if_pos h, h⟩
  · exact .inr ⟨if_neg h, h⟩
theorem withF_get {s : ByteArray} {g : PF → DA → DA × Int} {D : DA} : (getM D.L s = none ∧ withF s g D = (D, 7)) ∨ ∃ f, getM D.L s = some f ∧ withF s g D = g f D := by
  unfold withF
  cases h : getM D.L s with
  | none => exact .inl ⟨rfl, rfl⟩
  | some f => exact .inr ⟨f, rfl, rfl⟩
theorem remove_old {D : DA} {x : List Nat} (h : OldIs D x) : OldIs (removeD D nxN).1 x ∧ ((removeD D nxN).2 = 0 → (removeD D nxN).1.L = [(sN, fullF x)]) := by
  have hb := beginD_old h
  unfold removeD
  rcases behind_cases D (withF nxN fun _ D => ({ D with L := delM D.L nxN }, 0)) with ⟨e, _⟩ | ⟨e, e2⟩
  · rw [e]
    rcases hb with hb | ⟨g, hb⟩
    · unfold withF
      rw [hb, (two_get (fullF x) (fullF x)).2.2]
      exact ⟨.inl hb, fun _ => hb⟩
    · unfold withF
      rw [hb, (two_get (fullF x) g).1]
      dsimp only
      rw [hb, two_del]
      exact ⟨.inl rfl, fun _ => rfl⟩
  · rw [e]; exact ⟨hb, fun x => absurd x e2⟩
theorem tidy_old {D : DA} {x : List Nat} (h : OldIs D x) : OldIs (tidyD D nxN).1 x ∧ (D.down = false → (tidyD D nxN).2 = 0 → (tidyD D nxN).1.L = [(sN, fullF x)]) := by
  unfold tidyD thereD
  by_cases hd : D.down = true
  · rw [hd]
    exact ⟨h, fun e => by cases e⟩
  · have hd' : D.down = false := by simpa using hd
    rw [hd']
    rcases h with h | ⟨g, h⟩
    · rw [h, (two_get (fullF x) (fullF x)).2.2]
      exact ⟨.inl h, fun _ _ => h⟩
    · rw [h, (two_get (fullF x) g).1]
      have := remove_old (D := D) (x := x) (.inr ⟨g, h⟩)
      exact ⟨this.1, fun _ => this.2⟩
theorem create_old {D : DA} {x : List Nat} (h : OldIs D x) : OldIs (createD D nxN).1 x ∧ ((createD D nxN).2 = 0 → (createD D nxN).1.L = [(sN, fullF x), (nxN, ⟨[], 0⟩)]) := by
  have hb := beginD_old h
  unfold createD
  rcases behind_cases D (createF nxN) with ⟨e, _⟩ | ⟨e, e2⟩
  · rw [e]
    rcases hb with hb | ⟨g, hb⟩
    · have e2 : createF nxN (beginD D).1 = ({ (beginD D).1 with L := [(sN, fullF x), (nxN, ⟨[], 0⟩)] }, 0) := by
        unfold createF
        rw [nxN_name, hb, (two_get (fullF x) (fullF x)).2.2, (two_put (fullF x) (fullF x) _).2]
        rfl
      rw [e2]
      exact ⟨.inr ⟨⟨[], 0⟩, rfl⟩, fun _ => rfl⟩
    · have e2 : createF nxN (beginD D).1 = ((beginD D).1, 8) := by
        unfold createF
        rw [nxN_name, hb, (two_get (fullF x) g).1]
        rfl
      rw [e2]
      exact ⟨.inr ⟨g, hb⟩, fun e => by cases e⟩
  · rw [e]; exact ⟨hb, fun x => absurd x e2⟩
theorem append_old {D : DA} {x : List Nat} {g : PF} (h : D.L = [(sN, fullF x), (nxN, g)]) (b : List Nat) : OldIs (appendD D nxN b).1 x ∧ ((appendD D nxN b).2 = 0 → (appendD D nxN b).1.L = [(sN, fullF x), (nxN, ⟨g.b ++ b, g.s⟩)]) := by
  have hb : (beginD D).1.L = [(sN, fullF x), (nxN, g)] := by rw [(beginD_L D).1]; exact h
  unfold appendD
  rcases behind_cases D (withF nxN fun f D => if D.cap - usedL D.L < (b.length : Int) then (D, 12) else ({ D with L := putS D.L nxN ⟨f.b ++ b, f.s⟩ }, 0)) with ⟨e, _⟩ | ⟨e, e2⟩
  · rw [e]
    unfold withF
    rw [hb, (two_get (fullF x) g).1]
    dsimp only
    split
    · exact ⟨.inr ⟨g, hb⟩, fun e => by cases e⟩
    · exact ⟨.inr ⟨_, by dsimp only; rw [hb, (two_put (fullF x) g _).1]⟩, fun _ => by dsimp only; rw [hb, (two_put (fullF x) g _).1]⟩
  · rw [e]; exact ⟨.inr ⟨g, hb⟩, fun x => absurd x e2⟩
theorem sync_old {D : DA} {x : List Nat} {g : PF} (h : D.L = [(sN, fullF x), (nxN, g)]) : OldIs (syncD D nxN).1 x ∧ ((syncD D nxN).2 = 0 → (syncD D nxN).1.L = [(sN, fullF x), (nxN, ⟨g.b, g.b.length⟩)]) := by
  have hb : (beginD D).1.L = [(sN, fullF x), (nxN, g)] := by rw [(beginD_L D).1]; exact h
  unfold syncD
  rcases behind_cases D (withF nxN fun f D => ({ D with L := putS D.L nxN ⟨f.b, f.b.length⟩ }, 0)) with ⟨e, _⟩ | ⟨e, e2⟩
  · rw [e]
    unfold withF
    rw [hb, (two_get (fullF x) g).1]
    exact ⟨.inr ⟨_, by dsimp only; rw [hb, (two_put (fullF x) g _).1]⟩, fun _ => by dsimp only; rw [hb, (two_put (fullF x) g _).1]⟩
  · rw [e]; exact ⟨.inr ⟨g, hb⟩, fun x => absurd x e2⟩
theorem rename_old {D : DA} {x : List Nat} {g : PF} (h : D.L = [(sN, fullF x), (nxN, g)]) : ((renameD D nxN sN).2 = 0 ∧ (renameD D nxN sN).1.L = [(sN, g)]) ∨ ((renameD D nxN sN).2 ≠ 0 ∧ OldIs (renameD D nxN sN).1 x) := by
  have hb : (beginD D).1.L = [(sN, fullF x), (nxN, g)] := by rw [(beginD_L D).1]; exact h
  unfold renameD
  rcases behind_cases D (fun D => if nameB sN = false then (D, 3) else withF nxN (fun f D => ({ D with L := putS (delM D.L nxN) sN f }, 0)) D) with ⟨e, _⟩ | ⟨e, e2⟩
  · rw [e, sN_name, if_neg (by simp)]
    unfold withF
    rw [hb, (two_get (fullF x) g).1]
    exact .inl ⟨rfl, by dsimp only; rw [hb, two_del, putS_one]⟩
  · rw [e]; exact .inr ⟨e2, .inr ⟨g, hb⟩⟩
/-- What Save leaves of an old payload: the new one where it answers OK, else the old one. -/
theorem save_old {D : DA} {x y : List Nat} (h : OldIs D x) (hd : D.down = false) (hy : y.length ≤ 65536) :
    ((saveD D sN y).2 = 0 ∧ (saveD D sN y).1.L = [(sN, fullF y)]) ∨ ((saveD D sN y).2 ≠ 0 ∧ OldIs (saveD D sN y).1 x) := by
  have e0 : saveD D sN y = undoD (triesD D nxN sN (frameL y)) nxN := by
    unfold saveD
    rw [if_neg (by decide +kernel), if_neg (by omega)]
    rfl
  have key : ((triesD D nxN sN (frameL y)).2 = 0 ∧ (triesD D nxN sN (frameL y)).1.L = [(sN, fullF y)]) ∨ ((triesD D nxN sN (frameL y)).2 ≠ 0 ∧ OldIs (triesD D nxN sN (frameL y)).1 x) := by
    unfold triesD
    obtain ⟨t1, t2⟩ := tidy_old h
    by_cases z1 : (tidyD D nxN).2 = 0
    · rw [show thenD (tidyD D nxN) _ = _ from if_pos z1]
      obtain ⟨c1, c2⟩ := create_old (x := x) (.inl (t2 hd z1))
      by_cases z2 : (createD (tidyD D nxN).1 nxN).2 = 0
      · rw [show thenD (createD (tidyD D nxN).1 nxN) _ = _ from if_pos z2]
        obtain ⟨a1, a2⟩ := append_old (c2 z2) (frameL y)
        by_cases z3 : (appendD (createD (tidyD D nxN).1 nxN).1 nxN (frameL y)).2 = 0
        · rw [show thenD (appendD (createD (tidyD D nxN).1 nxN).1 nxN (frameL y)) _ = _ from if_pos z3]
          obtain ⟨s1, s2⟩ := sync_old (a2 z3)
          by_cases z4 : (syncD (appendD (createD (tidyD D nxN).1 nxN).1 nxN (frameL y)).1 nxN).2 = 0
          · rw [show thenD (syncD (appendD (createD (tidyD D nxN).1 nxN).1 nxN (frameL y)).1 nxN) _ = _ from if_pos z4]
            rcases rename_old (s2 z4) with ⟨r1, r2⟩ | r
            · exact .inl ⟨r1, r2⟩
            · exact .inr r
          · rw [show thenD (syncD (appendD (createD (tidyD D nxN).1 nxN).1 nxN (frameL y)).1 nxN) _ = _ from if_neg z4]
            exact .inr ⟨z4, s1⟩
        · rw [show thenD (appendD (createD (tidyD D nxN).1 nxN).1 nxN (frameL y)) _ = _ from if_neg z3]
          exact .inr ⟨z3, a1⟩
      · rw [show thenD (createD (tidyD D nxN).1 nxN) _ = _ from if_neg z2]
        exact .inr ⟨z2, c1⟩
    · rw [show thenD (tidyD D nxN) _ = _ from if_neg z1]
      exact .inr ⟨z1, t1⟩
  rw [e0]
  unfold undoD
  rcases key with ⟨k1, k2⟩ | ⟨k1, k2⟩
  · rw [if_pos (.inl k1)]; exact .inl ⟨k1, k2⟩
  · by_cases k3 : (triesD D nxN sN (frameL y)).2 = 13
    · rw [if_pos (.inr k3)]; exact .inr ⟨k1, k2⟩
    · rw [if_neg (fun e => e.elim k1 k3)]
      exact .inr ⟨k1, (tidy_old k2).1⟩
theorem boot_full (k : Int) (x : List Nat) : bootF k (fullF x) = fullF x := by
  unfold bootF leftF fullF
  simp
theorem boot_old {D : DA} {x : List Nat} (h : OldIs D x) (keep : List Int) : OldIs (bootD D keep).1 x := by
  unfold bootD
  split
  · rcases h with h | ⟨g, h⟩
    · refine .inl ?_
      dsimp only
      rw [h]
      show [(sN, bootF _ (fullF x))] = _
      rw [boot_full]
    · refine .inr ⟨bootF (keep.tail.headD 0) g, ?_⟩
      dsimp only
      rw [h]
      show [(sN, bootF _ (fullF x)), (nxN, _)] = _
      rw [boot_full]
  · exact h
theorem boot_calm {D : DA} (hd : D.down = true) (keep : List Int) : (bootD D keep).2 = 0 ∧ Calm (bootD D keep).1 := by
  unfold bootD
  rw [if_pos hd]
  exact ⟨rfl, ⟨rfl, rfl, rfl⟩⟩
theorem remove_calm {D : DA} (hc : Calm D) {s : ByteArray} (h : (getM D.L s).isSome = true) : (removeD D s).2 = 0 ∧ (removeD D s).1.down = false := by
  unfold removeD
  rw [hc.behind]
  rcases withF_get (s := s) (g := fun _ D => ({ D with L := delM D.L s }, 0)) (D := countedD D) with ⟨h1, _⟩ | ⟨f, _, e⟩
  · have e1 : (countedD D).L = D.L := rfl
    rw [e1] at h1
    rw [h1] at h
    cases h
  · rw [e]; exact ⟨rfl, hc.counted.down⟩
theorem tidy_calm {D : DA} (hc : Calm D) (s : ByteArray) : (tidyD D s).2 = 0 ∧ (tidyD D s).1.down = false := by
  unfold tidyD thereD
  rw [hc.down]
  cases h : (getM D.L s).isSome with
  | true => exact remove_calm hc h
  | false => exact ⟨rfl, hc.down⟩
theorem load_old {D : DA} {x : List Nat} (h : OldIs D x) (hc : Calm D) (hx : x.length ≤ 65536) :
    loadD D sN = ((tidyD D nxN).1, x, true, 0) ∧ (tidyD D nxN).1.L = [(sN, fullF x)] ∧ (tidyD D nxN).1.down = false := by
  obtain ⟨t1, t2⟩ := tidy_calm hc nxN
  have hL := (tidy_old h).2 hc.down t1
  have e := frame_first x [] hx
  have e2 := frame_size x [] hx
  have e3 := frame_pay x [] hx
  rw [List.append_nil] at e e2 e3
  refine ⟨?_, hL, t2⟩
  unfold loadD
  rw [if_neg (by rw [hc.down]; exact Bool.false_ne_true)]
  rw [show sN ++ nwN = nxN from rfl, if_pos t1, hL, getM_one]
  unfold loadF fullF
  dsimp only
  rw [if_pos ⟨e, by rw [e2, frameL_len]⟩, e3]
/-- ErrDown is answered only where the power has gone. -/
def DownErr (D : DA) (r : DA × Int) : Prop := r.1.failBy = D.failBy ∧ (D.failBy ≠ 13 → r.2 = 13 → r.1.down = true)
theorem beginD_dn (D : DA) : DownErr D (beginD D) := by
  unfold DownErr beginD
  by_cases h1 : D.down = true
  · rw [if_pos h1]; exact ⟨rfl, fun _ _ => h1⟩
  rw [if_neg h1]
  by_cases h2 : D.crashIn = 0
  · rw [if_pos h2]; exact ⟨rfl, fun _ _ => rfl⟩
  rw [if_neg h2]
  by_cases h3 : D.failIn = 0
  · rw [if_pos h3]; exact ⟨rfl, fun h e => absurd e h⟩
  · rw [if_neg h3]; exact ⟨rfl, fun _ e => by cases e⟩
theorem behind_dn {D : DA} {f : DA → DA × Int} (hf : ∀ D, DownErr D (f D)) : DownErr D (behindD D f) := by
  rcases behind_cases D f with ⟨e, _⟩ | ⟨e, _⟩
  · rw [e]
    have h1 := beginD_dn D
    have h2 := hf (beginD D).1
    exact ⟨h2.1.trans h1.1, fun h => h2.2 (by rw [h1.1]; exact h)⟩
  · rw [e]; exact beginD_dn D
theorem withF_dn {D : DA} {s : ByteArray} {g : PF → DA → DA × Int} (hg : ∀ f, DownErr D (g f D)) : DownErr D (withF s g D) := by
  rcases withF_get (s := s) (g := g) (D := D) with ⟨_, e⟩ | ⟨f, _, e⟩
  · rw [e]; exact ⟨rfl, fun _ e => by cases e⟩
  · rw [e]; exact hg f
theorem removeD_dn (D : DA) (s : ByteArray) : DownErr D (removeD D s) := behind_dn fun _ => withF_dn fun _ => ⟨rfl, fun _ e => by cases e⟩
theorem createD_dn (D : DA) (s : ByteArray) : DownErr D (createD D s) := behind_dn fun D => by
  unfold createF
  split
  · exact ⟨rfl, fun _ e => by cases e⟩
  split
  · exact ⟨rfl, fun _ e => by cases e⟩
  split
  · exact ⟨rfl, fun _ e => by cases e⟩
  · exact ⟨rfl, fun _ e => by cases e⟩
theorem appendD_dn (D : DA) (s : ByteArray) (b : List Nat) : DownErr D (appendD D s b) := behind_dn fun D => withF_dn fun f => by
  split
  · exact ⟨rfl, fun _ e => by cases e⟩
  · exact ⟨rfl, fun _ e => by cases e⟩
theorem syncD_dn (D : DA) (s : ByteArray) : DownErr D (syncD D s) := behind_dn fun _ => withF_dn fun _ => ⟨rfl, fun _ e => by cases e⟩
theorem renameD_dn (D : DA) (a c : ByteArray) : DownErr D (renameD D a c) := behind_dn fun D => by
  split
  · exact ⟨rfl, fun _ e => by cases e⟩
  · exact withF_dn fun _ => ⟨rfl, fun _ e => by cases e⟩
theorem tidyD_dn (D : DA) (s : ByteArray) : DownErr D (tidyD D s) := by
  unfold tidyD
  split
  · exact removeD_dn D s
  · exact ⟨rfl, fun _ e => by cases e⟩
theorem thenD_dn {D : DA} {r : DA × Int} {f : DA → DA × Int} (h : DownErr D r) (hf : ∀ D, DownErr D (f D)) : DownErr D (thenD r f) := by
  unfold thenD
  split
  · have h2 := hf r.1
    exact ⟨h2.1.trans h.1, fun x => h2.2 (by rw [h.1]; exact x)⟩
  · exact h
theorem saveD_dn (D : DA) (s : ByteArray) (l : List Nat) : DownErr D (saveD D s l) := by
  have ht : DownErr D (triesD D (s ++ nwN) s (frameL l)) :=
    thenD_dn (tidyD_dn D _) fun D => thenD_dn (createD_dn D _) fun D => thenD_dn (appendD_dn D _ _) fun D => thenD_dn (syncD_dn D _) fun D => renameD_dn D _ s
  unfold saveD
  split
  · exact ⟨rfl, fun _ e => by cases e⟩
  split
  · exact ⟨rfl, fun _ e => by cases e⟩
  unfold undoD
  split
  · exact ht
  · rename_i h1
    have h2 := tidyD_dn (triesD D (s ++ nwN) s (frameL l)).1 (s ++ nwN)
    exact ⟨h2.1.trans ht.1, fun _ e => absurd e (fun e => h1 (.inr e))⟩
/-- The first Save of all. -/
theorem save_new {D : DA} (hc : Calm D) (h0 : D.L = []) {x : List Nat} (hx : x.length ≤ 65536) :
    (D.cap < 9 + (x.length : Int) ∧ (saveD D sN x).2 = 12) ∨ ((saveD D sN x).2 = 0 ∧ (saveD D sN x).1.L = [(sN, fullF x)] ∧ Calm (saveD D sN x).1) := by
  have e0 : saveD D sN x = undoD (triesD D nxN sN (frameL x)) nxN := by
    unfold saveD
    rw [if_neg (by decide +kernel), if_neg (by omega)]
    rfl
  have e1 : tidyD D nxN = (D, 0) := by unfold tidyD thereD; rw [h0, hc.down]; rfl
  obtain ⟨c1, c2, c3, c4⟩ := create_calm h0 hc nxN_name
  have key : (D.cap < 9 + (x.length : Int) ∧ (triesD D nxN sN (frameL x)).2 = 12) ∨ ((triesD D nxN sN (frameL x)).2 = 0 ∧ (triesD D nxN sN (frameL x)).1.L = [(sN, fullF x)] ∧ Calm (triesD D nxN sN (frameL x)).1) := by
    unfold triesD
    rw [e1]
    rw [show thenD (D, 0) _ = _ from if_pos rfl]
    dsimp only
    rw [show thenD (createD D nxN) _ = _ from if_pos c1]
    rcases append_calm c2 c3 (frameL x) with ⟨a1, a2, _⟩ | ⟨a1, a2, a3⟩
    · rw [show thenD (appendD (createD D nxN).1 nxN (frameL x)) _ = _ from if_neg (by rw [a2]; decide)]
      refine .inl ⟨?_, a2⟩
      rw [c4, frameL_len] at a1
      simp only [List.length_nil] at a1
      omega
    · rw [show thenD (appendD (createD D nxN).1 nxN (frameL x)) _ = _ from if_pos a1]
      generalize appendD (createD D nxN).1 nxN (frameL x) = r at a1 a2 a3
      have hs : syncD r.1 nxN = ({ countedD r.1 with L := [(nxN, fullF x)] }, 0) := by
        unfold syncD
        rw [a3.behind]
        unfold withF
        have e3 : (countedD r.1).L = r.1.L := rfl
        rw [e3, a2, getM_one]
        dsimp only
        rw [e3, a2, putS_one]
        rfl
      rw [hs]
      rw [show thenD (({ countedD r.1 with L := [(nxN, fullF x)] } : DA), (0 : Int)) _ = _ from if_pos rfl]
      dsimp only
      have hc4 : Calm { countedD r.1 with L := [(nxN, fullF x)] } := ⟨a3.counted.down, a3.counted.fail, a3.counted.crash⟩
      refine .inr ?_
      unfold renameD
      rw [hc4.behind]
      dsimp only
      rw [sN_name]
      unfold withF
      have e4 : (countedD { countedD r.1 with L := [(nxN, fullF x)] }).L = [(nxN, fullF x)] := rfl
      rw [e4, getM_one]
      have hc5 := hc4.counted
      refine ⟨rfl, ?_, ⟨hc5.down, hc5.fail, hc5.crash⟩⟩
      show putS (delM (countedD { countedD r.1 with L := [(nxN, fullF x)] }).L nxN) sN (fullF x) = _
      rw [e4]
      have : delM [(nxN, fullF x)] nxN = [] := by simp [delM]
      rw [this]
      rfl
  rw [e0]
  unfold undoD
  rcases key with ⟨k1, k2⟩ | ⟨k1, k2, k3⟩
  · rw [if_neg (by rw [k2]; decide)]
    exact .inl ⟨k1, k2⟩
  · rw [if_pos (.inl k1)]
    exact .inr ⟨k1, k2, k3⟩
end Go.Proofs.YtficodklidaheaaDoor
/-
  DERIVED: THE SHELF's CONTRACTS AT THIS DUMP, IN PLAIN WORDS (tools/lay-plain.mjs out of 'TrydIterLay.lean', which tools/lay-shelf.mjs wrote): THE SAME DECLARATIONS UNDER THE SAME NAMES: 'import', 'namespace', 'open', 'def', 'theorem' AND NOTHING ELSE: no command of the shelf's: FOR A HAND-IN. Each laying: the table of numbers ('.._ren') and one theorem, a field a fact of the dump's own or the kernel's comparison; each contract: ONE APPLICATION.
-/
namespace Go.Proofs
open Go.Shelf
def Tryd.keysIt_ren : Go.Shelf.Ren := ⟨fun | 7 => 93 | 10 => 109 | n => n, fun | 23 => 109 | 26 => 9 | 3 => 114 | 28 => 146 | 0 => 0 | 27 => 145 | 33 => 112 | 4 => 4 | n => n, fun | n => n⟩
theorem Tryd.keysIt : Go.Proofs.SlLaysZ.n7 Tryd.prog Tryd.keysIt_ren := {
  mixed := by kernel_rfl
  f7 := ⟨Tryd.f93.name, by decide, Tryd.func93.trans (congrArg some (by kernel_rfl))⟩
  f10 := ⟨Tryd.f109.name, by decide, Tryd.func109.trans (congrArg some (by kernel_rfl))⟩
  t0 := Tryd.underlying0
  a0 := Tryd.isAgg0
  z0 := Tryd.sizeOf0
  v0 := Tryd.zeroValue0
  t4 := Tryd.underlying4
  a4 := Tryd.isAgg4
  z4 := Tryd.sizeOf4
  v4 := Tryd.zeroValue4
  t23 := Tryd.underlying109
  a23 := Tryd.isAgg109
  z23 := Tryd.sizeOf109
  v23 := Tryd.zeroValue109
  t26 := Tryd.underlying9
  a26 := Tryd.isAgg9
  z26 := Tryd.sizeOf9
  v26 := Tryd.zeroValue9
  t27 := Tryd.underlying145
  a27 := Tryd.isAgg145
  z27 := Tryd.sizeOf145
  v27 := Tryd.zeroValue145
  t28 := Tryd.underlying146
  a28 := Tryd.isAgg146
  z28 := Tryd.sizeOf146
  v28 := Tryd.zeroValue146
  t33 := Tryd.underlying112
  a33 := Tryd.isAgg112
  z33 := Tryd.sizeOf112
  v33 := Tryd.zeroValue112 }
def Tryd.sortedIt_ren : Go.Shelf.Ren := ⟨fun | 6 => 92 | 8 => 107 | 9 => 108 | 11 => 111 | 13 => 113 | 12 => 112 | 23 => 123 | 24 => 124 | 14 => 114 | 15 => 115 | 16 => 116 | 17 => 117 | 18 => 118 | 19 => 119 | 20 => 120 | 21 => 121 | 22 => 122 | 25 => 125 | 26 => 126 | 27 => 127 | 28 => 128 | 29 => 129 | 30 => 130 | 31 => 131 | n => n, fun | 26 => 9 | 28 => 146 | 24 => 53 | 0 => 0 | 3 => 3 | 37 => 141 | 48 => 104 | 50 => 132 | 4 => 4 | 40 => 163 | 39 => 162 | 45 => 168 | 5 => 5 | 9 => 9 | 51 => 172 | 55 => 175 | 57 => 177 | 58 => 178 | 33 => 112 | n => n, fun | n => n⟩
theorem Tryd.sortedIt : Go.Proofs.SlLaysZ.n6 Tryd.prog Tryd.sortedIt_ren := {
  mixed := by kernel_rfl
  f6 := ⟨Tryd.f92.name, by decide, Tryd.func92.trans (congrArg some (by kernel_rfl))⟩
  f8 := ⟨Tryd.f107.name, by decide, Tryd.func107.trans (congrArg some (by kernel_rfl))⟩
  f11 := ⟨Tryd.f111.name, by decide, Tryd.func111.trans (congrArg some (by kernel_rfl))⟩
  t0 := Tryd.underlying0
  a0 := Tryd.isAgg0
  z0 := Tryd.sizeOf0
  v0 := Tryd.zeroValue0
  t24 := Tryd.underlying53
  a24 := Tryd.isAgg53
  z24 := Tryd.sizeOf53
  v24 := Tryd.zeroValue53
  t26 := Tryd.underlying9
  a26 := Tryd.isAgg9
  z26 := Tryd.sizeOf9
  v26 := Tryd.zeroValue9
  t28 := Tryd.underlying146
  a28 := Tryd.isAgg146
  z28 := Tryd.sizeOf146
  v28 := Tryd.zeroValue146
  i26 := by kernel_rfl }
def Tryd.sortIt_ren : Go.Shelf.Ren := ⟨fun | 6 => 108 | 8 => 113 | 9 => 112 | 19 => 123 | 20 => 124 | 21 => 114 | 22 => 115 | 23 => 116 | 24 => 117 | 25 => 118 | 26 => 119 | 27 => 120 | 28 => 121 | 29 => 122 | 36 => 125 | 31 => 126 | 32 => 127 | 37 => 128 | 38 => 129 | 39 => 130 | 41 => 131 | n => n, fun | 27 => 53 | 29 => 9 | 3 => 3 | 32 => 141 | 26 => 53 | 0 => 0 | 44 => 104 | 46 => 132 | 4 => 4 | 36 => 163 | 35 => 162 | 41 => 168 | 5 => 5 | 9 => 9 | 53 => 172 | 57 => 175 | 63 => 177 | 64 => 178 | n => n, fun | n => n⟩
theorem Tryd.sortIt : Go.Proofs.SlLaysM.n6 Tryd.prog Tryd.sortIt_ren := {
  mixed := by kernel_rfl
  f6 := ⟨Tryd.f108.name, by decide, Tryd.func108.trans (congrArg some (by kernel_rfl))⟩
  f8 := Tryd.func113.trans (congrArg some (by kernel_rfl))
  f9 := ⟨Tryd.f112.name, by decide, Tryd.func112.trans (congrArg some (by kernel_rfl))⟩
  f19 := Tryd.func123.trans (congrArg some (by kernel_rfl))
  f20 := Tryd.func124.trans (congrArg some (by kernel_rfl))
  f21 := ⟨Tryd.f114.name, by decide, Tryd.func114.trans (congrArg some (by kernel_rfl))⟩
  f22 := ⟨Tryd.f115.name, by decide, Tryd.func115.trans (congrArg some (by kernel_rfl))⟩
  f23 := ⟨Tryd.f116.name, by decide, Tryd.func116.trans (congrArg some (by kernel_rfl))⟩
  f24 := ⟨Tryd.f117.name, by decide, Tryd.func117.trans (congrArg some (by kernel_rfl))⟩
  f25 := ⟨Tryd.f118.name, by decide, Tryd.func118.trans (congrArg some (by kernel_rfl))⟩
  f26 := ⟨Tryd.f119.name, by decide, Tryd.func119.trans (congrArg some (by kernel_rfl))⟩
  f27 := ⟨Tryd.f120.name, by decide, Tryd.func120.trans (congrArg some (by kernel_rfl))⟩
  f28 := ⟨Tryd.f121.name, by decide, Tryd.func121.trans (congrArg some (by kernel_rfl))⟩
  f29 := ⟨Tryd.f122.name, by decide, Tryd.func122.trans (congrArg some (by kernel_rfl))⟩
  f31 := Tryd.func126.trans (congrArg some (by kernel_rfl))
  f32 := Tryd.func127.trans (congrArg some (by kernel_rfl))
  f36 := ⟨Tryd.f125.name, by decide, Tryd.func125.trans (congrArg some (by kernel_rfl))⟩
  f37 := ⟨Tryd.f128.name, by decide, Tryd.func128.trans (congrArg some (by kernel_rfl))⟩
  f38 := ⟨Tryd.f129.name, by decide, Tryd.func129.trans (congrArg some (by kernel_rfl))⟩
  f39 := ⟨Tryd.f130.name, by decide, Tryd.func130.trans (congrArg some (by kernel_rfl))⟩
  f41 := ⟨Tryd.f131.name, by decide, Tryd.func131.trans (congrArg some (by kernel_rfl))⟩
  t0 := Tryd.underlying0
  a0 := Tryd.isAgg0
  z0 := Tryd.sizeOf0
  v0 := Tryd.zeroValue0
  t3 := Tryd.underlying3
  a3 := Tryd.isAgg3
  z3 := Tryd.sizeOf3
  v3 := Tryd.zeroValue3
  t4 := Tryd.underlying4
  a4 := Tryd.isAgg4
  z4 := Tryd.sizeOf4
  v4 := Tryd.zeroValue4
  t5 := Tryd.underlying5
  a5 := Tryd.isAgg5
  z5 := Tryd.sizeOf5
  v5 := Tryd.zeroValue5
  t9 := Tryd.underlying9
  a9 := Tryd.isAgg9
  z9 := Tryd.sizeOf9
  v9 := Tryd.zeroValue9
  t26 := Tryd.underlying53
  a26 := Tryd.isAgg53
  z26 := Tryd.sizeOf53
  v26 := Tryd.zeroValue53
  t27 := Tryd.underlying53
  a27 := Tryd.isAgg53
  z27 := Tryd.sizeOf53
  v27 := Tryd.zeroValue53
  t29 := Tryd.underlying9
  a29 := Tryd.isAgg9
  z29 := Tryd.sizeOf9
  v29 := Tryd.zeroValue9
  t32 := Tryd.underlying141
  a32 := Tryd.isAgg141
  z32 := Tryd.sizeOf141
  v32 := Tryd.zeroValue141
  t35 := Tryd.underlying162
  a35 := Tryd.isAgg162
  z35 := Tryd.sizeOf162
  v35 := Tryd.zeroValue162
  t36 := Tryd.underlying163
  a36 := Tryd.isAgg163
  z36 := Tryd.sizeOf163
  v36 := Tryd.zeroValue163
  t41 := Tryd.underlying168
  a41 := Tryd.isAgg168
  z41 := Tryd.sizeOf168
  v41 := Tryd.zeroValue168
  t44 := Tryd.underlying104
  a44 := Tryd.isAgg104
  z44 := Tryd.sizeOf104
  v44 := Tryd.zeroValue104
  t46 := Tryd.underlying132
  a46 := Tryd.isAgg132
  z46 := Tryd.sizeOf132
  v46 := Tryd.zeroValue132
  t53 := Tryd.underlying172
  a53 := Tryd.isAgg172
  z53 := Tryd.sizeOf172
  v53 := Tryd.zeroValue172
  t57 := Tryd.underlying175
  a57 := Tryd.isAgg175
  z57 := Tryd.sizeOf175
  v57 := Tryd.zeroValue175
  t63 := Tryd.underlying177
  a63 := Tryd.isAgg177
  z63 := Tryd.sizeOf177
  v63 := Tryd.zeroValue177
  t64 := Tryd.underlying178
  a64 := Tryd.isAgg178
  z64 := Tryd.sizeOf178
  v64 := Tryd.zeroValue178 }
end Go.Proofs
