/- A histogram in its block. -/
import Derived.Test.YtjpnfadmblmjbaaDoorHS
namespace Go.Proofs.YtjpnfadmblmjbaaDoor
open Go.RowKit
attribute [local go_sem ↓] Go.wp_at_zero Go.wp_at_succ

theorem hist_info : (Tryd.prog.info? 62).map (·.size) = some 6 := by kernel_rfl
/-- A histogram in its block. -/
def HistBox (w : World) (q : Nat) (h : HistV) (pv nv : Value) : Prop := w.heap[q]? = some (.cells #[.int .i64 h.sc, .int .u64 (h.ze : Int), .int .i64 h.po, pv, .int .i64 h.no, nv] 62 (0, 0))
theorem HistBox.c {w : World} {q : Nat} {h : HistV} {pv nv : Value} (b : HistBox w q h pv nv) : w.cell? ⟨q, 0, none⟩ = some (.int .i64 h.sc) ∧ w.cell? ⟨q, 1, none⟩ = some (.int .u64 (h.ze : Int)) ∧ w.cell? ⟨q, 2, none⟩ = some (.int .i64 h.po) ∧ w.cell? ⟨q, 3, none⟩ = some pv ∧ w.cell? ⟨q, 4, none⟩ = some (.int .i64 h.no) ∧ w.cell? ⟨q, 5, none⟩ = some nv := by
  refine ⟨?_, ?_, ?_, ?_, ?_, ?_⟩
  · rw [cell_of_row _ _ 0 _ _ _ b]; rfl
  · rw [cell_of_row _ _ 1 _ _ _ b]; rfl
  · rw [cell_of_row _ _ 2 _ _ _ b]; rfl
  · rw [cell_of_row _ _ 3 _ _ _ b]; rfl
  · rw [cell_of_row _ _ 4 _ _ _ b]; rfl
  · rw [cell_of_row _ _ 5 _ _ _ b]; rfl
theorem HistBox.f {w : World} {q : Nat} {h : HistV} {pv nv : Value} (b : HistBox w q h pv nv) : w.frozen? ⟨q, 0, none⟩ = false ∧ w.frozen? ⟨q, 1, none⟩ = false ∧ w.frozen? ⟨q, 2, none⟩ = false ∧ w.frozen? ⟨q, 3, none⟩ = false ∧ w.frozen? ⟨q, 4, none⟩ = false ∧ w.frozen? ⟨q, 5, none⟩ = false := by
  unfold HistBox at b; simp [World.frozen?, b]
theorem HistBox.same {S : Nat → Prop} {w w' : World} {q : Nat} {h : HistV} {pv nv : Value} (b : HistBox w q h pv nv) (hk : Kept S w w') (hn : ¬ S q) : HistBox w' q h pv nv := hk.same b hn
/-- Six cells are set one behind the other. -/
def set6 (w : World) (q : Nat) (a b c d e f : Value) : World := (((((w.setCell ⟨q, 0, none⟩ a).setCell ⟨q, 1, none⟩ b).setCell ⟨q, 2, none⟩ c).setCell ⟨q, 3, none⟩ d).setCell ⟨q, 4, none⟩ e).setCell ⟨q, 5, none⟩ f
theorem HistBox.set {w : World} {q : Nat} {h : HistV} {pv nv : Value} (b : HistBox w q h pv nv) (h' : HistV) (pv' nv' : Value) : HistBox (set6 w q (.int .i64 h'.sc) (.int .u64 (h'.ze : Int)) (.int .i64 h'.po) pv' (.int .i64 h'.no) nv') q h' pv' nv' := by
  unfold HistBox set6 at *; simp [World.setCell, Array.getElem?_modify, b]
theorem set6_kept (w : World) (q : Nat) (a b c d e f : Value) : Kept (fun k => k = q) w (set6 w q a b c d e f) :=
  ((((((Kept.refl (fun k => k = q) w).setCell (p := ⟨q, 0, none⟩) (fun _ => rfl) a).setCell (p := ⟨q, 1, none⟩) (fun _ => rfl) b).setCell (p := ⟨q, 2, none⟩) (fun _ => rfl) c).setCell (p := ⟨q, 3, none⟩) (fun _ => rfl) d).setCell (p := ⟨q, 4, none⟩) (fun _ => rfl) e).setCell (p := ⟨q, 5, none⟩) (fun _ => rfl) f
theorem Mine.set6 {W w : World} {v : Value} {xs : List Value} {q : Nat} {h : HistV} {pv nv : Value} (m : Mine W w 28 v xs) (hb : HistBox w q h pv nv) (hq : W.heap.size ≤ q) (a b c d e f : Value) : Mine W (set6 w q a b c d e f) 28 v xs :=
  m.keptS (set6_kept w q a b c d e f) (fun k e x => own_box m.own hb (by decide) (by rw [e, x])) (fun k e => by omega)

theorem hist_end {fn : Func} {p s : Tmp} {a : Act} {P : Ending → World → Prop} {w : World} {q : Nat} {h : HistV} {pv nv x : Value} (hres : fn.results = #[.cell p 62, .tmp s]) (hp : a.tmps.getD p undef = .pointer (some ⟨q, 0, none⟩)) (hx : a.tmps.getD s undef = x) (hd : a.defers = [])
    (hg : HistBox w q h pv nv) (hP : P (.returned (.tuple #[histV h pv nv, x])) w) : bodyPost Tryd.prog fn P .ret a w := by
  refine bodyPost_ret (v := .tuple #[histV h pv nv, x]) ?_ hd hP
  have hp' : a.tmps[p]?.getD undef = .pointer (some ⟨q, 0, none⟩) := by simpa using hp
  have hx' : a.tmps[s]?.getD undef = x := by simpa using hx
  have hl := run_loadVar_row (P := Tryd.prog) w q 62 62 _ (0, 0) _ hg Tryd.underlying62 rfl hist_info
  simp [results, hres, hp', hx', asAddr, hl, histV]

def zeroH : HistV := ⟨0, 0, 0, [], 0, []⟩
theorem err_light {h : HistV} (he : h.err = 0) : (-10 ≤ h.sc ∧ h.sc ≤ 20) ∧ sideE h.po h.pl = 0 ∧ sideE h.no h.nl = 0 ∧ h.total < 18446744073709551616 := by
  unfold HistV.err at he
  split at he
  · omega
  · split at he
    · omega
    · split at he
      · omega
      · split at he
        · omega
        · refine ⟨by omega, by omega, by omega, by omega⟩
theorem sideE_zero {o : Int} {l : List Nat} (h : sideE o l = 0) : l.length ≤ 160 ∧ (l.length = 0 → o = 0) ∧ (l.length ≠ 0 → l.getD 0 0 ≠ 0 ∧ l.getD (l.length - 1) 0 ≠ 0 ∧ -1073741824 ≤ o ∧ o + (l.length : Int) - 1 ≤ 1073741824) := by
  unfold sideE at h
  split at h
  · omega
  · split at h
    · split at h
      · refine ⟨by omega, fun _ => by assumption, fun h' => absurd (by assumption) h'⟩
      · omega
    · split at h
      · omega
      · split at h
        · omega
        · rename_i h1 h2 h3 h4
          refine ⟨by omega, fun h' => absurd h' h2, fun _ => ⟨fun e => h3 (.inl e), fun e => h3 (.inr e), by omega, by omega⟩⟩
/-- A histogram that came in. -/
structure HistIn (W : World) (h : HistV) (pv nv : Value) : Prop where
  at_ : HistAt W h pv nv
  ok : h.ok
  cp : ∀ a n c, pv = .slice a n c → n ≤ c
  cn : ∀ a n c, nv = .slice a n c → n ≤ c
theorem hist_boxed (W : World) (h : HistV) (pv nv : Value) : HistBox (W.alloc (.cells #[.int .i64 h.sc, .int .u64 (h.ze : Int), .int .i64 h.po, pv, .int .i64 h.no, nv] 62)) W.heap.size h pv nv := heap_alloc_new W _
theorem side_info : (Tryd.prog.info? 60).map (·.size) = some 2 := by kernel_rfl
/-- A side in its block. -/
def SideBox (w : World) (q : Nat) (o : Int) (v : Value) : Prop := w.heap[q]? = some (.cells #[.int .i64 o, v] 60 (0, 0))
theorem SideBox.c {w : World} {q : Nat} {o : Int} {v : Value} (h : SideBox w q o v) : (w.cell? ⟨q, 0, none⟩ = some (.int .i64 o) ∧ w.cell? ⟨q, 1, none⟩ = some v) ∧ w.frozen? ⟨q, 0, none⟩ = false ∧ w.frozen? ⟨q, 1, none⟩ = false := by
  refine ⟨⟨?_, ?_⟩, ?_⟩
  · rw [cell_of_row _ _ 0 _ _ _ h]; rfl
  · rw [cell_of_row _ _ 1 _ _ _ h]; rfl
  · unfold SideBox at h; simp [World.frozen?, h]
theorem SideBox.set {w : World} {q : Nat} {o : Int} {v : Value} (h : SideBox w q o v) (o' : Int) (v' : Value) : SideBox ((w.setCell ⟨q, 0, none⟩ (.int .i64 o')).setCell ⟨q, 1, none⟩ v') q o' v' := by
  unfold SideBox at *; simp [World.setCell, Array.getElem?_modify, h]
theorem SideBox.same {S : Nat → Prop} {w w' : World} {q : Nat} {o : Int} {v : Value} (h : SideBox w q o v) (hk : Kept S w w') (hn : ¬ S q) : SideBox w' q o v := hk.same h hn
theorem side_end {fn : Func} {p : Tmp} {a : Act} {P : Ending → World → Prop} {w : World} {q : Nat} {o : Int} {v : Value} (hres : fn.results = #[.cell p 60]) (hp : a.tmps.getD p undef = .pointer (some ⟨q, 0, none⟩)) (hd : a.defers = [])
    (hg : SideBox w q o v) (h : P (.returned (.agg #[.int .i64 o, v])) w) : bodyPost Tryd.prog fn P .ret a w :=
  bodyPost_ret (v := .agg #[.int .i64 o, v]) (results_cell_row hres _ _ q 60 _ (0, 0) _ hp hg Tryd.underlying60 rfl side_info) hd h
end Go.Proofs.YtjpnfadmblmjbaaDoor
