/- Texts put together: F19r, R1, R2, WO, F12. -/
import Derived.Test.YtficodklidaheaaDoorZz6
import Derived.Deep.Slices
import Derived.Test.YtficodklidaheaaDoorZz1
import Derived.Deep.Fields
import Derived.ChangeSame
import Derived.Test.YtficodklidaheaaDoorZz2
import Derived.Test.YtficodklidaheaaDoorZz18
import Derived.Test.YtficodklidaheaaDoorRows
import Derived.Lib.LaidTab
import Derived.LaidMore
import Derived.LaidLaws
import Derived.Stop.Joined
/- A slice of rows of bytes that came in. -/
namespace Go.Proofs.YtficodklidaheaaDoor
open Go.ChangeShapes Go.WideShapes Go.Deep Go.RowKit


theorem build_list {P : Nat → List Nat → Prop} : ∀ k, (∀ i, i < k → ∃ l, P i l) → ∃ Ls : List (List Nat), Ls.length = k ∧ ∀ i, i < k → P i (Ls.getD i []) := by
  intro k
  induction k with
  | zero => intro _; exact ⟨[], rfl, fun i h => absurd h (by omega)⟩
  | succ k ih =>
    intro h
    obtain ⟨Ls, hl, hp⟩ := ih (fun i hi => h i (by omega))
    obtain ⟨l, hq⟩ := h k (by omega)
    refine ⟨Ls ++ [l], by simp [hl], fun i hi => ?_⟩
    rcases Nat.lt_or_eq_of_le (Nat.le_of_lt_succ hi) with h1 | rfl
    · have e : (Ls ++ [l]).getD i [] = Ls.getD i [] := by simp only [List.getD_eq_getElem?_getD]; rw [List.getElem?_append_left (by omega)]
      rw [e]; exact hp i h1
    · have e : (Ls ++ [l]).getD i [] = l := by simp only [List.getD_eq_getElem?_getD]; rw [List.getElem?_append_right (by omega), hl]; simp
      rw [e]; exact hq
theorem rows_of {H : Type} {enc : TypeId × Value → H} {P : Program} {W : World} {sp : Nat} {T E I : TypeId} {a : Option Addr} {len cap : Nat} {d : DataW H} {p : List MemPlace}
    (hT : P.underlying T = some (.slice E)) (hE : P.underlying E = some (.slice I)) (hI : P.underlying I = some (.int .u8)) (hC : P.cellsOf E = 1) (hC2 : P.cellsOf I = 1) (h : DataW.Trod enc P W sp (fun _ => true) true T (.slice a len cap) d p) :
    ∃ Ls : List (List Nat), Ls.length = len ∧ RowsAt W (.slice a Ls.length cap) Ls ∧ Ls.length ≤ cap ∧ Ls.length ≤ maxLen ∧ (∀ l ∈ Ls, l.length ≤ maxLen) ∧ ∀ l ∈ Ls, ∀ x ∈ l, x < 256 := by
  obtain ⟨fuel, hf⟩ := h
  rcases open_slice1 hT hC hf with ⟨hcs, _⟩ | ⟨x, l, c, m, n, V, D, Pl, hcs, _, hl, hm, hmm, _, hi⟩
  · simp [Value.cells] at hcs
    obtain ⟨rfl, rfl, rfl⟩ := hcs
    exact ⟨[], rfl, ⟨none, 0, rfl, fun i h => absurd h (by simp)⟩, by simp, by simp [maxLen], by simp, by simp⟩
  · simp [Value.cells] at hcs
    obtain ⟨rfl, rfl, rfl⟩ := hcs
    have key : ∀ i, i < len → ∃ r : List Nat, r.length ≤ maxLen ∧ (∀ y ∈ r, y < 256) ∧ ∃ ai ci, W.cell? (x.add i) = some (.slice ai r.length ci) ∧ Row8 W (.slice ai r.length ci) r := by
      intro i hil
      obtain ⟨h1, h2⟩ := hi i (by simp at hmm; omega)
      have hv : ∃ ai li ci, V i = .slice ai li ci := by
        rcases open_slice hE h2 with ⟨h3, _⟩ | ⟨a3, l3, c3, _, _, _, _, h3, _⟩
        · exact ⟨_, _, _, List.singleton_inj.1 h3⟩
        · exact ⟨_, _, _, List.singleton_inj.1 h3⟩
      obtain ⟨ai, li, ci, hv⟩ := hv
      rw [hv] at h1 h2
      obtain ⟨zs, hz⟩ := isRow_of (k := .u8) (d := D i) (p := Pl i) (a := ai) (len := li) (cap := ci) hE hI hC2 ⟨n, by simpa [Value.cells] using h2⟩
      obtain ⟨r, hr, h8, hmx⟩ := hz.row8
      subst hr
      exact ⟨r, hmx, h8.lt, ai, ci, h1, h8⟩
    obtain ⟨Ls, hLs, hP⟩ := build_list len key
    refine ⟨Ls, hLs, ⟨some x, cap, rfl, fun i hil => ?_⟩, by omega, by omega, fun r hr => ?_, fun r hr => ?_⟩
    · obtain ⟨_, _, ai, ci, h1, h2⟩ := hP i (by omega)
      exact ⟨x, ai, ci, rfl, h1, h2⟩
    · obtain ⟨i, hi2, rfl⟩ := List.getElem_of_mem hr
      have := (hP i (by omega)).1
      rwa [List.getD_eq_getElem?_getD, List.getElem?_eq_getElem hi2] at this
    · obtain ⟨i, hi2, rfl⟩ := List.getElem_of_mem hr
      have := (hP i (by omega)).2.1
      rwa [List.getD_eq_getElem?_getD, List.getElem?_eq_getElem hi2] at this
end Go.Proofs.YtficodklidaheaaDoor
/- A slice of structs that came in, field by field. -/
namespace Go.Proofs.YtficodklidaheaaDoor
open Go.ChangeShapes Go.WideShapes Go.Deep Go.RowKit

/-- Each element of a slice of structs (of fields of one cell each) lies in its cells, and each field reads by its own type. -/
theorem recs_of {H : Type} {enc : TypeId × Value → H} {P : Program} {W : World} {sp : Nat} {T E : TypeId} {fs : Array Field} {a : Option Addr} {len cap : Nat} {d : DataW H} {p : List MemPlace}
    (hT : P.underlying T = some (.slice E)) (hE : P.underlying E = some (.struct fs)) (hone : oneCellFields P fs = true) (hC : P.cellsOf E = fs.size) (h : DataW.Trod enc P W sp (fun _ => true) true T (.slice a len cap) d p) :
    (a = none ∧ len = 0 ∧ cap = 0) ∨
    ∃ x, a = some x ∧ len ≤ cap ∧ cap ≤ maxLen ∧ ∀ i, i < len → ∀ (j : Nat) (f : Field), fs[j]? = some f → ∃ (v : Value) (n : Nat) (y : DataW H × List MemPlace), W.cell? (x.add (i * fs.size + j)) = some v ∧ DataW.trod enc P W sp (fun _ => true) true n f.type [v] = some y := by
  obtain ⟨fuel, hf⟩ := h
  rcases open_slice hT hf with ⟨hcs, _⟩ | ⟨x, l, c, m, n, D, Pl, hcs, _, hl, hm, hmm, _, hi⟩
  · simp [Value.cells] at hcs
    obtain ⟨rfl, rfl, rfl⟩ := hcs
    exact .inl ⟨rfl, rfl, rfl⟩
  · simp [Value.cells] at hcs
    obtain ⟨rfl, rfl, rfl⟩ := hcs
    refine .inr ⟨x, rfl, hl, hm, fun i hil j f hj => ?_⟩
    obtain ⟨cs', hc, ht'⟩ := hi i (by simp at hmm; omega)
    rw [hC] at hc
    obtain ⟨ys, n', _, _, _, hyl, hg⟩ := DataW.trod_struct hE ht'
    obtain ⟨_, hcl, hat⟩ := World.cells?_some hc
    obtain ⟨ho, hk⟩ := hone_of hone j f hj
    have hjl : j < fs.size := (Array.getElem?_eq_some_iff.1 hj).1
    have h1 := hg j f hj
    rw [ho, hk, List.drop_eq_getElem_cons (by omega), List.take_succ_cons, List.take_zero, List.getElem?_eq_getElem (by omega)] at h1
    refine ⟨cs'[j]'(by omega), n', _, ?_, h1⟩
    rw [← Go.Deep.add_add, hat j hjl, List.getElem?_eq_getElem (by omega)]
end Go.Proofs.YtficodklidaheaaDoor
/- Fields of structs that came in, read by their types; a list chosen element by element. It imports nothing of a translation. -/
namespace Go.Proofs.YtficodklidaheaaDoor
open Go.ChangeShapes Go.WideShapes Go.ChangeAt Go.RowKit Go.Deep

theorem trod_row {H : Type} {enc : TypeId × Value → H} {P : Program} {T E : TypeId} {k : IntKind} {W : World} {sp n : Nat} {v : Value} {y : DataW H × List MemPlace}
    (hT : P.underlying T = some (.slice E)) (hE : P.underlying E = some (.int k)) (hc : P.cellsOf E = 1) (h : DataW.trod enc P W sp (fun _ => true) true n T [v] = some y) : ∃ ao len cap zs, v = .slice ao len cap ∧ IsRow k W ao len cap zs := by
  rcases open_ints hT hE hc h with ⟨hcs, _⟩ | ⟨x, l, c, zs, hcs, _, hl, hm, hz, _, hcell, hwz⟩
  · injection hcs with e _
    exact ⟨none, 0, 0, [], e, .inl ⟨rfl, rfl, rfl, rfl⟩⟩
  · injection hcs with e _
    exact ⟨some x, l, c, zs, e, .inr ⟨_, rfl, hl, hm, by simpa using hz, hcell, hwz⟩⟩
theorem trod_i64 {H : Type} {enc : TypeId × Value → H} {P : Program} {T : TypeId} {k : IntKind} {W : World} {sp n : Nat} {v : Value} {y : DataW H × List MemPlace}
    (hT : P.underlying T = some (.int k)) (h : DataW.trod enc P W sp (fun _ => true) true n T [v] = some y) : ∃ x, v = .int k x ∧ (Lit.int k x).wf = true := by
  obtain ⟨x, e, _, hw⟩ := DataW.trod_int hT h
  injection e with e _
  exact ⟨x, e, hw⟩
theorem wf_u8 (x : Int) (h : (Lit.int .u8 x).wf = true) : 0 ≤ x ∧ x < (256 : Nat) := by
  have := bd_u8 h; omega
theorem isRow_cap {k : IntKind} {w : World} {a : Option Addr} {len cap : Nat} {zs : List Int} (h : IsRow k w a len cap zs) : len ≤ cap ∧ cap ≤ maxLen := by
  rcases h with ⟨rfl, rfl, rfl, rfl⟩ | ⟨x, rfl, hlc, hm, _⟩
  · exact ⟨Nat.le_refl _, by unfold maxLen; omega⟩
  · exact ⟨hlc, hm⟩
theorem choose_list {α : Type} {n : Nat} {P : Nat → α → Prop} (h : ∀ i, i < n → ∃ r, P i r) : ∃ l : List α, l.length = n ∧ ∀ i r, l[i]? = some r → P i r := by
  induction n with
  | zero => exact ⟨[], rfl, by simp⟩
  | succ n ih =>
    obtain ⟨l, hl, hp⟩ := ih (fun i hi => h i (by omega))
    obtain ⟨r, hr⟩ := h n (by omega)
    refine ⟨l ++ [r], by simp [hl], fun i r' hi => ?_⟩
    rw [List.getElem?_append] at hi
    split at hi
    · exact hp i r' hi
    · rename_i h1
      have h2 : i - l.length = 0 := by
        rcases Nat.eq_zero_or_pos (i - l.length) with h | h
        · exact h
        · rw [List.getElem?_eq_none (by simp; omega)] at hi; cases hi
      rw [h2] at hi
      simp at hi
      have h3 : i = n := by omega
      subst hi; rw [h3]; exact hr
/-- A new block whose cells are a row's. -/
theorem own_fresh (w : World) (E : TypeId) (s : Nat) (xs : List Value) (n : Nat) (hl : xs.length = n * s) (hm : n ≤ maxLen) : (w.alloc (.cells xs.toArray E)).ownsRow w.heap.size E s (.slice (some ⟨w.heap.size, 0, none⟩) n n) n xs :=
  ⟨hl, .inr ⟨w.heap.size, n, _, rfl, Nat.le_refl _, heap_alloc_new w _, Nat.le_refl _, hm, by simp [hl], by rw [← hl]; simp⟩⟩
end Go.Proofs.YtficodklidaheaaDoor
/- Layer 19: the walk of WalKeeps, of what came in. -/
namespace Go.Proofs.YtficodklidaheaaDoor
open Go.RowKit

theorem isRow_vals {w : World} {a : Option Addr} {len cap : Nat} {zs : List Int} (h : IsRow .i64 w a len cap zs) : ∃ l : List Int, l.length = len ∧ SlAt w (.slice a len cap) (vals l) ∧ len ≤ 9223372036854775807 := by
  obtain ⟨l, hl, _, hs⟩ := h.slAtI
  exact ⟨l, hl, hs, by have := isRow_cap h; unfold maxLen at this; omega⟩
theorem walKeeps_walk (ao : Option Addr) (c : Nat) (Ls : List (List Nat)) (a1 : Option Addr) (len1 cap1 : Nat) (z1 : List Int) (a2 : Int) (a3 : Option Addr) (len3 cap3 : Nat) (z3 : List Int) (a4 : Int) (W : World) (HR : RowsAt W (.slice ao Ls.length c) Ls) (_hcap : Ls.length ≤ c) (hL : Ls.length ≤ maxLen) (hb : ∀ l ∈ Ls, l.length ≤ maxLen) (_hb8 : ∀ l ∈ Ls, ∀ x ∈ l, x < 256)
    (h1 : IsRow .i64 W a1 len1 cap1 z1) (h2 : -9223372036854775808 ≤ a2 ∧ a2 ≤ 9223372036854775807) (h3 : IsRow .i64 W a3 len3 cap3 z3) (_h4 : -9223372036854775808 ≤ a4 ∧ a4 ≤ 9223372036854775807) (HN : Nibs W) :
    Calls Tryd.prog 7 #[.slice ao Ls.length c, .slice a1 len1 cap1, .int .i64 a2, .slice a3 len3 cap3, .int .i64 a4] W fun e w' => e = .returned (.bool true) ∧ Kept (fun _ => False) W w' := by
  obtain ⟨l1, e1, s1, m1⟩ := isRow_vals h1
  obtain ⟨l3, e3, s3, m3⟩ := isRow_vals h3
  exact keeps_walk ao c Ls a1 len1 cap1 l1 a2 a3 len3 cap3 l3 a4 W HN HR (by unfold maxLen at hL; omega) (fun l hl => by have := hb l hl; unfold maxLen at this; omega) m1 m3 s1 e1 s3 e3 h2
end Go.Proofs.YtficodklidaheaaDoor
/- What the listed variable gives the walks. -/
namespace Go.Proofs.YtficodklidaheaaDoor
open Go.ChangeShapes Go.WideShapes Go.ChangeAt Go.RowKit

theorem gNib : Tryd.prog.globalNamed "limnograph/crc.nibbles" = some 0 := by kernel_rfl
theorem tNib : (Tryd.prog.globals[0]?).map (·.type) = some 142 := by kernel_rfl
theorem door_met (os : Os) (args : Array Value) : laidMetH Tryd.prog [("limnograph/crc.nibbles", Rows.laid_limnograph_crc_nibbles)] ((World.doorLaid Tryd.prog 400 os).forCall (fun _ _ => 0) ⟨#[], args, []⟩).memory :=
  laidMetH_of_parts3 (fuel := 8) (laidMet_of_run' 8 (by kernel_rfl) (by kernel_rfl)) (by kernel_rfl) (by kernel_rfl)
theorem nibs_of_laid {W : World} (h : laidMetH Tryd.prog [("limnograph/crc.nibbles", Rows.laid_limnograph_crc_nibbles)] W) : Nibs W := by
  rw [MakeChecks.laidMetH_plain _ _ _ (by kernel_rfl)] at h
  obtain ⟨ps, ⟨g0, t0, cs0, f0, p0, q0, hg0, ht0, hv0, hd0, _, _⟩, _, _⟩ := h
  obtain rfl := Option.some.inj (gNib.symm.trans hg0)
  obtain rfl := Option.some.inj (tNib.symm.trans ht0)
  have hcs := Lib.cells_of_tab (zs := nibL.map fun (x : Nat) => (x : Int)) Tryd.underlying142 Tryd.underlying104 (by kernel_rfl) (by kernel_rfl) hd0
  intro j hj
  have hc := World.var?_cell hg0 hv0 j
  rw [hc]
  have e : cs0[j]? = cs0.toList[j]? := by simp
  rw [e, hcs]
  have hl : j < nibL.length := hj
  simp [List.getElem?_map, List.getElem?_eq_getElem hl, List.getD_eq_getElem?_getD]
end Go.Proofs.YtficodklidaheaaDoor
