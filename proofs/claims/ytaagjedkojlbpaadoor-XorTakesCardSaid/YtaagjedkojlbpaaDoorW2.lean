/- math/bits and package xor: how many bits stand ahead and behind; around, behind, holds, short. -/
import Derived.Test.YtaagjedkojlbpaaDoorW1
import Derived.Test.YtaagjedkojlbpaaDoorShelf
import Derived.Shelf.Spec.TrailingZeros
namespace Go.Proofs.YtaagjedkojlbpaaDoor
open Go.RowKit
attribute [local go_sem ↓] Go.wp_at_zero Go.wp_at_succ

/-- The library's table by which the last bit that is set is found. -/
def BruTab (w : World) : Prop := ∀ j, j < 64 → w.cell? ⟨2, j, none⟩ = some (.int .u8 ((Lib.deBruijn64tab.getD j 0 : Nat) : Int))
theorem BruTab.keptS {S : Nat → Prop} {w w' : World} (h : BruTab w) (hk : Kept S w w') (hn : ¬ S 2) : BruTab w' := fun j hj => hk.cell (h j hj) hn
theorem BruTab.kept {w w' : World} (h : BruTab w) (hk : Kept (fun _ => False) w w') : BruTab w' := h.keptS hk (fun x => x)
theorem BruTab.lt {w : World} (h : BruTab w) : 2 < w.heap.size := by
  have := h 0 (by omega)
  unfold World.cell? at this
  by_cases hs : 2 < w.heap.size
  · exact hs
  · simp [Array.getElem?_eq_none (show w.heap.size ≤ 2 by omega)] at this

theorem lz_any (x : Nat) (hx : x < 18446744073709551616) (w : World) :
    Calls Tryd.prog 81 #[.int .u64 x] w fun e w' => e = .returned (.int .i64 ((lzN x : Nat) : Int)) ∧ w = w' := by
  refine (Tryd.bits_LeadingZeros64 (x : Int) w (by omega) (by omega)).mono ?_
  rintro e w' ⟨rfl, rfl⟩
  have := bitLen_64 x hx
  refine ⟨ret_int ?_, rfl⟩
  unfold lzN
  rw [Int.toNat_natCast]
  omega

set_option maxHeartbeats 1000000 in
theorem tz_any (x : Nat) (hx : x < 18446744073709551616) (w : World) (HT : BruTab w) :
    Calls Tryd.prog 82 #[.int .u64 x] w fun e w' => e = .returned (.int .i64 ((tzN x : Nat) : Int)) ∧ w = w' := by
  by_cases hx0 : x = 0
  · subst hx0
    clear HT
    go_enter Tryd.func82, Tryd.ntmps82
    go_wp2
    go_ret
    exact ⟨rfl, rfl⟩
  · obtain ⟨hlow, hk⟩ := Lib.lowest_bit 64 x hx0 hx
    have key := tz64_key x _ hx hx0 hlow
    obtain ⟨hi, htab⟩ := Lib.deBruijn64_at _ hk
    have hcell := HT _ hi
    rw [htab] at hcell
    have e : Lib.ctz 64 x = tzN x := rfl
    try rw [e] at key
    try rw [e] at hk
    try rw [e] at hi
    try rw [e] at hcell
    have e2 : Lib.ctzFrom 64 x = tzN x := by unfold tzN Lib.ctz; rw [if_neg hx0]
    try rw [e2] at key
    try rw [e2] at hk
    try rw [e2] at hi
    try rw [e2] at hcell
    obtain ⟨T, hT⟩ : ∃ T, T = tzN x := ⟨_, rfl⟩
    rw [← hT] at key hk hi hcell ⊢
    obtain ⟨I, hI⟩ : ∃ I, I = 2 ^ T * 285870213051353865 % 18446744073709551616 / 288230376151711744 := ⟨_, rfl⟩
    rw [← hI] at key hi hcell
    have hx00 : ((x : Int) == 0) = false := by simp; omega
    clear hT hI HT hlow htab e e2
    go_enter Tryd.func82, Tryd.ntmps82
    go_wp2_with (simp only [key])
    go_ret
    exact ⟨rfl, rfl⟩

/-- A window as a value. -/
def winV (f s : Nat) : Value := .agg #[.int .i64 (f : Int), .int .i64 (s : Int)]

set_option maxHeartbeats 1000000 in
theorem behind_any (f s : Nat) (hf : f ≤ 100) (hs : s ≤ 100) (w : World) :
    Calls Tryd.prog 76 #[winV f s] w fun e w' => e = .returned (.int .i64 (64 - (f : Int) - (s : Int))) ∧ Kept (fun _ => False) w w' := by
  unfold winV
  have K := Lib.hid ((Kept.refl (fun _ => False) w).alloc (.cells #[.int .i64 (f : Int), .int .i64 (s : Int)] 91))
  have e1 : IntKind.i64.wrap (64 - (f : Int)) = 64 - (f : Int) := IntWalk.i64_in _ ⟨by omega, by omega⟩
  have e2 : IntKind.i64.wrap (64 - (f : Int) - (s : Int)) = 64 - (f : Int) - (s : Int) := IntWalk.i64_in _ ⟨by omega, by omega⟩
  go_enter Tryd.func76, Tryd.ntmps76
  go_wp2
  go_ret
  exact ⟨rfl, K.out⟩

set_option maxHeartbeats 1000000 in
theorem short_any (b : Bool) (w : World) :
    Calls Tryd.prog 77 #[.bool b] w fun e w' => e = .returned (.int .i64 (if b then 0 else 2)) ∧ w = w' := by
  cases b
  all_goals
    go_enter Tryd.func77, Tryd.ntmps77
    go_wp2
    go_ret
    exact ⟨rfl, rfl⟩

theorem win_info : (Tryd.prog.info? 91).map (·.size) = some 2 := by kernel_rfl
/-- A window in its block. -/
def WinBox (w : World) (q : Nat) (f s : Int) : Prop := w.heap[q]? = some (.cells #[.int .i64 f, .int .i64 s] 91 (0, 0))
theorem WinBox.c {w : World} {q : Nat} {f s : Int} (b : WinBox w q f s) : w.cell? ⟨q, 0, none⟩ = some (.int .i64 f) ∧ w.cell? ⟨q, 1, none⟩ = some (.int .i64 s) := by
  have h := fun i => cell_of_row w q i _ _ _ b
  refine ⟨?_, ?_⟩ <;> (rw [h]; rfl)
theorem WinBox.f {w : World} {q : Nat} {f s : Int} (b : WinBox w q f s) (i : Nat) : w.frozen? ⟨q, i, none⟩ = false := by
  unfold WinBox at b; simp [World.frozen?, b]
theorem WinBox.same {S : Nat → Prop} {w w' : World} {q : Nat} {f s : Int} (b : WinBox w q f s) (hk : Kept S w w') (hn : ¬ S q) : WinBox w' q f s := hk.same b hn
def set2 (w : World) (q : Nat) (a b : Value) : World := (w.setCell ⟨q, 0, none⟩ a).setCell ⟨q, 1, none⟩ b
theorem set2_kept (w : World) (q : Nat) (a b : Value) : Kept (fun k => k = q) w (set2 w q a b) :=
  ((Kept.refl (fun k => k = q) w).setCell (p := ⟨q, 0, none⟩) (fun _ => rfl) a).setCell (p := ⟨q, 1, none⟩) (fun _ => rfl) b
theorem WinBox.set {w : World} {q : Nat} {f s : Int} (b : WinBox w q f s) (f' s' : Int) : WinBox (set2 w q (.int .i64 f') (.int .i64 s')) q f' s' := by
  unfold WinBox set2 at *; simp [World.setCell, Array.getElem?_modify, b]
theorem WinBox.new (w : World) (f s : Int) : WinBox (w.alloc (.cells #[.int .i64 f, .int .i64 s] 91)) w.heap.size f s := heap_alloc_new w _
theorem win_end {fn : Func} {p : Tmp} {a : Act} {P : Ending → World → Prop} {w : World} {q : Nat} {f s : Int} (hres : fn.results = #[.cell p 91]) (hp : a.tmps.getD p undef = .pointer (some ⟨q, 0, none⟩)) (hd : a.defers = [])
    (hg : WinBox w q f s) (h : P (.returned (.agg #[.int .i64 f, .int .i64 s])) w) : bodyPost Tryd.prog fn P .ret a w :=
  bodyPost_ret (v := .agg #[.int .i64 f, .int .i64 s]) (results_cell_row hres _ _ q 91 _ (0, 0) _ hp hg Tryd.underlying91 rfl win_info) hd h

set_option maxHeartbeats 1000000 in
theorem xaround_any (x : Nat) (hx : x < 18446744073709551616) (h0 : x ≠ 0) (w : World) (HT : BruTab w) :
    Calls Tryd.prog 75 #[.int .u64 x] w fun e w' => e = .returned (winV (newF x) (newS x)) ∧ Kept (fun _ => False) w w' := by
  have HL := Lib.hid (lz_any x hx)
  have HZ := Lib.hid fun w1 (h : Kept (fun _ => False) w w1) => tz_any x hx w1 (HT.kept h)
  have hlt := lz_tz x hx h0
  have hF : newF x = min (lzN x) 31 := rfl
  have hS : newS x = 64 - newF x - tzN x := rfl
  unfold winV
  obtain ⟨F, hFe⟩ : ∃ F, F = newF x := ⟨_, rfl⟩
  obtain ⟨S, hSe⟩ : ∃ F, F = newS x := ⟨_, rfl⟩
  rw [← hFe] at hF hS ⊢
  rw [← hSe] at hS ⊢
  obtain ⟨L, hL⟩ : ∃ F, F = lzN x := ⟨_, rfl⟩
  obtain ⟨Z, hZ⟩ : ∃ F, F = tzN x := ⟨_, rfl⟩
  rw [← hL] at hF hlt HL
  rw [← hZ] at hS hlt HZ
  have K := Lib.hid ((Kept.refl (fun _ => False) w).alloc (.cells #[.int .i64 0, .int .i64 0] 91))
  have B := Lib.hid (WinBox.new w 0 0)
  have e1 : (S : Int) = 64 - (F : Int) - (Z : Int) := by omega
  have e2 : IntKind.i64.wrap (64 - (F : Int)) = 64 - (F : Int) := IntWalk.i64_in _ ⟨by omega, by omega⟩
  have e3 : IntKind.i64.wrap (64 - (F : Int) - (Z : Int)) = (S : Int) := by rw [e1]; exact IntWalk.i64_in _ ⟨by omega, by omega⟩
  have e0 : min (L : Int) 31 = (F : Int) := by omega
  clear HT hF hS hFe hSe hL hZ
  go_enter Tryd.func75, Tryd.ntmps75
  go_wp2_with fail
  refine (HL.out _).mono ?_
  rintro e w1 ⟨rfl, rfl⟩
  go_wp2_with fail
  refine (HZ.out _ K.out).mono ?_
  rintro e w1 ⟨rfl, rfl⟩
  go_wp2
  refine win_end Tryd.results75 rfl rfl (WinBox.new w _ _) ⟨by rw [e1], (Kept.refl _ _).alloc _⟩
end Go.Proofs.YtaagjedkojlbpaaDoor
