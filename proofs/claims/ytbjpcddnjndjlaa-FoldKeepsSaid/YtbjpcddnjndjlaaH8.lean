/- package hist: Down. -/
import Derived.Test.YtbjpcddnjndjlaaH7
namespace Go.Proofs.Ytbjpcddnjndjlaa
open Go.RowKit

theorem hist_info : (Try.prog.info? 27).map (·.size) = some 6 := by kernel_rfl
/-- A histogram in its block. -/
def HistBox (w : World) (q : Nat) (h : HistV) (pv nv : Value) : Prop := w.heap[q]? = some (.cells #[.int .i64 h.sc, .int .u64 (h.ze : Int), .int .i64 h.po, pv, .int .i64 h.no, nv] 27 (0, 0))
theorem HistBox.c {w : World} {q : Nat} {h : HistV} {pv nv : Value} (b : HistBox w q h pv nv) : w.cell? ⟨q, 0, none⟩ = some (.int .i64 h.sc) ∧ w.cell? ⟨q, 1, none⟩ = some (.int .u64 (h.ze : Int)) ∧ w.cell? ⟨q, 2, none⟩ = some (.int .i64 h.po) ∧ w.cell? ⟨q, 3, none⟩ = some pv ∧ w.cell? ⟨q, 4, none⟩ = some (.int .i64 h.no) ∧ w.cell? ⟨q, 5, none⟩ = some nv := by
  refine ⟨?_, ?_, ?_, ?_, ?_, ?_⟩
  · rw [cell_of_row _ _ 0 _ _ _ b]; rfl
  · rw [cell_of_row _ _ 1 _ _ _ b]; rfl
  · rw [cell_of_row _ _ 2 _ _ _ b]; rfl
  · rw [cell_of_row _ _ 3 _ _ _ b]; rfl
  · rw [cell_of_row _ _ 4 _ _ _ b]; rfl
  · rw [cell_of_row _ _ 5 _ _ _ b]; rfl
theorem HistBox.f {w : World} {q : Nat} {h : HistV} {pv nv : Value} (b : HistBox w q h pv nv) : w.frozen? ⟨q, 0, none⟩ = false ∧ w.frozen? ⟨q, 1, none⟩ = false ∧ w.frozen? ⟨q, 2, none⟩ = false ∧ w.frozen? ⟨q, 3, none⟩ = false ∧ w.frozen? ⟨q, 4, none⟩ = false ∧ w.frozen? ⟨q, 5, none⟩ = false := by
  unfold HistBox at b; simp [World.frozen?, b]
theorem HistBox.same {S : Nat → Prop} {w w' : World} {q : Nat} {h : HistV} {pv nv : Value} (b : HistBox w q h pv nv) (hk : Kept S w w') (hn : ¬ S q) : HistBox w' q h pv nv := hk.same b hn
/-- Six cells are set one behind the other. -/
def set6 (w : World) (q : Nat) (a b c d e f : Value) : World := (((((w.setCell ⟨q, 0, none⟩ a).setCell ⟨q, 1, none⟩ b).setCell ⟨q, 2, none⟩ c).setCell ⟨q, 3, none⟩ d).setCell ⟨q, 4, none⟩ e).setCell ⟨q, 5, none⟩ f
theorem HistBox.set {w : World} {q : Nat} {h : HistV} {pv nv : Value} (b : HistBox w q h pv nv) (h' : HistV) (pv' nv' : Value) : HistBox (set6 w q (.int .i64 h'.sc) (.int .u64 (h'.ze : Int)) (.int .i64 h'.po) pv' (.int .i64 h'.no) nv') q h' pv' nv' := by
  unfold HistBox set6 at *; simp [World.setCell, Array.getElem?_modify, b]
theorem set6_kept (w : World) (q : Nat) (a b c d e f : Value) : Kept (fun k => k = q) w (set6 w q a b c d e f) :=
  ((((((Kept.refl (fun k => k = q) w).setCell (p := ⟨q, 0, none⟩) (fun _ => rfl) a).setCell (p := ⟨q, 1, none⟩) (fun _ => rfl) b).setCell (p := ⟨q, 2, none⟩) (fun _ => rfl) c).setCell (p := ⟨q, 3, none⟩) (fun _ => rfl) d).setCell (p := ⟨q, 4, none⟩) (fun _ => rfl) e).setCell (p := ⟨q, 5, none⟩) (fun _ => rfl) f
theorem Mine.set6 {W w : World} {v : Value} {xs : List Value} {q : Nat} {h : HistV} {pv nv : Value} (m : Mine W w 22 v xs) (hb : HistBox w q h pv nv) (hq : W.heap.size ≤ q) (a b c d e f : Value) : Mine W (set6 w q a b c d e f) 22 v xs :=
  m.keptS (set6_kept w q a b c d e f) (fun k e x => own_box m.own hb (by decide) (by rw [e, x])) (fun k e => by omega)

theorem hist_end {fn : Func} {p s : Tmp} {a : Act} {P : Ending → World → Prop} {w : World} {q : Nat} {h : HistV} {pv nv x : Value} (hres : fn.results = #[.cell p 27, .tmp s]) (hp : a.tmps.getD p undef = .pointer (some ⟨q, 0, none⟩)) (hx : a.tmps.getD s undef = x) (hd : a.defers = [])
    (hg : HistBox w q h pv nv) (hP : P (.returned (.tuple #[histV h pv nv, x])) w) : bodyPost Try.prog fn P .ret a w := by
  refine bodyPost_ret (v := .tuple #[histV h pv nv, x]) ?_ hd hP
  have hp' : a.tmps[p]?.getD undef = .pointer (some ⟨q, 0, none⟩) := by simpa using hp
  have hx' : a.tmps[s]?.getD undef = x := by simpa using hx
  have hl := run_loadVar_row (P := Try.prog) w q 27 27 _ (0, 0) _ hg Try.underlying27 rfl hist_info
  simp [results, hres, hp', hx', asAddr, hl, histV]

/-- A histogram, more coarsely; the error of that. -/
def downE (h : HistV) (by_ : Int) : Nat := if h.err ≠ 0 then h.err else if by_ < 0 ∨ h.sc + 10 < by_ then 1 else 0
def downH (h : HistV) (b : Nat) : HistV := ⟨h.sc - (b : Int), h.ze, downO h.po h.pl b, downL h.po h.pl b, downO h.no h.nl b, downL h.no h.nl b⟩
def zeroH : HistV := ⟨0, 0, 0, [], 0, []⟩
/-- What a call answers that makes a histogram, in new memory. -/
def HistOut (w : World) (R : HistV) (E : Nat) (e : Ending) (w' : World) : Prop :=
  ∃ pv nv, e = .returned (.tuple #[histV R pv nv, .int .i64 (E : Int)]) ∧ Mine w w' 22 pv (uvals R.pl) ∧ Mine w w' 22 nv (uvals R.nl) ∧ ∀ k, pv.ownBlock = some k → nv.ownBlock ≠ some k
def downR (h : HistV) (by_ : Int) : HistV := if downE h by_ = 0 then downH h by_.toNat else zeroH

theorem zeroOut {w w' : World} {E : Nat} (hk : Kept (fun _ => False) w w') : HistOut w zeroH E (.returned (.tuple #[histV zeroH (.slice none 0 0) (.slice none 0 0), .int .i64 (E : Int)])) w' :=
  ⟨_, _, rfl, Mine.nil' _ hk, Mine.nil' _ hk, fun k e => by cases e⟩

theorem err_light {h : HistV} (he : h.err = 0) : (-10 ≤ h.sc ∧ h.sc ≤ 20) ∧ sideE h.po h.pl = 0 ∧ sideE h.no h.nl = 0 ∧ h.total < 18446744073709551616 := by
  unfold HistV.err at he
  split at he
  · omega
  · split at he
    · omega
    · split at he
      · omega
      · split at he
        · omega
        · refine ⟨by omega, by omega, by omega, by omega⟩
theorem sideE_zero {o : Int} {l : List Nat} (h : sideE o l = 0) : l.length ≤ 160 ∧ (l.length = 0 → o = 0) ∧ (l.length ≠ 0 → l.getD 0 0 ≠ 0 ∧ l.getD (l.length - 1) 0 ≠ 0 ∧ -1073741824 ≤ o ∧ o + (l.length : Int) - 1 ≤ 1073741824) := by
  unfold sideE at h
  split at h
  · omega
  · split at h
    · split at h
      · refine ⟨by omega, fun _ => by assumption, fun h' => absurd (by assumption) h'⟩
      · omega
    · split at h
      · omega
      · split at h
        · omega
        · rename_i h1 h2 h3 h4
          refine ⟨by omega, fun h' => absurd h' h2, fun _ => ⟨fun e => h3 (.inl e), fun e => h3 (.inr e), by omega, by omega⟩⟩
theorem side_range {o : Int} {l : List Nat} (h : sideE o l = 0) : (-1000000000000 ≤ o ∧ o ≤ 1000000000000) ∧ l.length ≤ 160 := by
  obtain ⟨h1, h2, h3⟩ := sideE_zero h
  by_cases hz : l.length = 0
  · have := h2 hz; omega
  · have := h3 hz; omega
theorem total_parts {h : HistV} (ht : h.total < 18446744073709551616) : h.pl.sum < 18446744073709551616 ∧ h.nl.sum < 18446744073709551616 := by
  unfold HistV.total sumN at ht; omega

end Go.Proofs.Ytbjpcddnjndjlaa
