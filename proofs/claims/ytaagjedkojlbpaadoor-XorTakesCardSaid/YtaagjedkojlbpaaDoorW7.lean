/- package xor: inNew. -/
import Derived.Test.YtaagjedkojlbpaaDoorW6
namespace Go.Proofs.YtaagjedkojlbpaaDoor
open Go.RowKit
attribute [local go_sem ↓] Go.wp_at_zero Go.wp_at_succ

/-- A row of floats in its block. -/
def XRow (w : World) (r : Nat) (n last f s : Nat) : Prop := w.heap[r]? = some (.cells #[.int .i64 (n : Int), .int .u64 (last : Int), .int .i64 (f : Int), .int .i64 (s : Int)] 93 (0, 0))
theorem XRow.c {w : World} {r n last f s : Nat} (h : XRow w r n last f s) : w.cell? ⟨r, 0, none⟩ = some (.int .i64 (n : Int)) ∧ w.cell? ⟨r, 1, none⟩ = some (.int .u64 (last : Int)) ∧ w.cell? ⟨r, 2, none⟩ = some (.int .i64 (f : Int)) ∧ w.cell? ⟨r, 3, none⟩ = some (.int .i64 (s : Int)) := by
  have hc := fun i => cell_of_row w r i _ _ _ h
  refine ⟨?_, ?_, ?_, ?_⟩ <;> (rw [hc]; rfl)
theorem XRow.f {w : World} {r n last f s : Nat} (h : XRow w r n last f s) (i : Nat) : w.frozen? ⟨r, i, none⟩ = false := by
  unfold XRow at h; simp [World.frozen?, h]
theorem XRow.lt {w : World} {r n last f s : Nat} (h : XRow w r n last f s) : r < w.heap.size := (Array.getElem?_eq_some_iff.1 h).1
theorem XRow.kept {S : Nat → Prop} {w w' : World} {r n last f s : Nat} (h : XRow w r n last f s) (hk : Kept S w w') (hn : ¬ S r) : XRow w' r n last f s := hk.same h hn

theorem BrAt.apartT {w : World} {B p r : Nat} {v : Value} {bs : List Bool} {t : Nat} {cs : Array Value} {T : TypeId} {fr : Nat × Nat} (h : BrAt w B p v bs t) (hr : w.heap[r]? = some (.cells cs T fr)) (h1 : T ≠ 82) (h2 : T ≠ 5) : r ≠ p ∧ v.ownBlock ≠ some r := by
  refine ⟨?_, ?_⟩
  · rintro rfl
    have := h.box
    rw [hr] at this
    injection this with this; injection this with _ e _
    exact h1 e
  · intro e
    obtain ⟨cur, hc⟩ := ownsRow_block h.owns e
    rw [hr] at hc
    injection hc with this; injection this with _ e _
    exact h2 e

/-- What goes on while a float is taken: a reader in block p, a row in block r, windows in blocks of their own. -/
structure InS (w wi : World) (B p r : Nat) (v : Value) (bs : List Bool) (t n last f s : Nat) (ws : List (Nat × Int × Int)) : Prop where
  rd : BrAt wi B p v bs t
  row : XRow wi r n last f s
  bx : ∀ e ∈ ws, WinBox wi e.1 e.2.1 e.2.2 ∧ w.heap.size ≤ e.1
  tab : BruTab wi
  kept : Kept (fun k => k = p) w wi
  rp : r ≠ p
  p2 : 2 < p
  pw : p < w.heap.size
section
variable {w wi w2 : World} {B p r q : Nat} {v : Value} {bs : List Bool} {t t2 n last f s : Nat} {ws : List (Nat × Int × Int)} {a b : Int}
theorem WinBox.lt {w : World} {q : Nat} {f s : Int} (h : WinBox w q f s) : q < w.heap.size := (Array.getElem?_eq_some_iff.1 h).1
theorem InS.on (h : InS w wi B p r v bs t n last f s ws) (k : Kept (fun _ => False) wi w2) : InS w w2 B p r v bs t n last f s ws :=
  ⟨h.rd.keptF k, h.row.kept k (fun x => x), fun e he => ⟨(h.bx e he).1.same k (fun x => x), (h.bx e he).2⟩, h.tab.kept k, h.kept.trans (k.mono fun _ _ x => x.elim), h.rp, h.p2, h.pw⟩
theorem InS.took (h : InS w wi B p r v bs t n last f s ws) (k : Kept (fun k => k = p) wi w2) (hr : BrAt w2 B p v bs t2) : InS w w2 B p r v bs t2 n last f s ws :=
  ⟨hr, h.row.kept k h.rp, fun e he => ⟨(h.bx e he).1.same k (fun x => by have := (h.bx e he).2; have := h.pw; omega), (h.bx e he).2⟩, h.tab.keptS k (fun x => by have := h.p2; omega), h.kept.trans k, h.rp, h.p2, h.pw⟩
theorem InS.new (h : InS w wi B p r v bs t n last f s ws) (a b : Int) : InS w (wi.alloc (.cells #[.int .i64 a, .int .i64 b] 91)) B p r v bs t n last f s ((wi.heap.size, a, b) :: ws) := by
  have h2 := h.on ((Kept.refl (fun _ => False) wi).alloc (.cells #[.int .i64 a, .int .i64 b] 91))
  refine { h2 with bx := ?_ }
  intro e he
  rcases List.mem_cons.1 he with rfl | he
  · exact ⟨WinBox.new wi a b, h.kept.size⟩
  · exact h2.bx e he
theorem InS.reg (h : InS w wi B p r v bs t n last f s ws) (hm : (q, a, b) ∈ ws) : (wi.cell? ⟨q, 0, none⟩ = some (.int .i64 a) ∧ wi.cell? ⟨q, 1, none⟩ = some (.int .i64 b)) ∧ (wi.cell? ⟨r, 2, none⟩ = some (.int .i64 (f : Int)) ∧ wi.cell? ⟨r, 3, none⟩ = some (.int .i64 (s : Int))) :=
  ⟨(h.bx _ hm).1.c, h.row.c.2.2⟩
theorem InS.fin (h : InS w wi B p r v bs t n last f s ws) (hm : (q, a, b) ∈ ws) (x y : Int) : BrAt (set2 wi q (.int .i64 x) (.int .i64 y)) B p v bs t ∧ Kept (fun k => k = p) w (set2 wi q (.int .i64 x) (.int .i64 y)) := by
  have k := set2_kept wi q (.int .i64 x) (.int .i64 y)
  obtain ⟨hb, hq⟩ := h.bx _ hm
  have n1 := h.rd.apartT hb (by decide) (by decide)
  refine ⟨h.rd.kept k (fun e => n1.1 e.symm) (fun k e x => n1.2 (by rw [e, x])), h.kept.step k (fun i hi x => ?_)⟩
  simp only at hq; omega
theorem InS.fin2 {q' : Nat} {a' b' : Int} (h : InS w wi B p r v bs t n last f s ws) (hm : (q', a', b') ∈ ws) (_hq : (q, a, b) ∈ ws) (hne : q' ≠ q) (x y : Int) : (set2 wi q (.int .i64 x) (.int .i64 y)).cell? ⟨q', 0, none⟩ = some (.int .i64 a') ∧ (set2 wi q (.int .i64 x) (.int .i64 y)).cell? ⟨q', 1, none⟩ = some (.int .i64 b') :=
  ((h.bx _ hm).1.same (set2_kept wi q (.int .i64 x) (.int .i64 y)) (by simpa using hne)).c
theorem InS.fin3 (h : InS w wi B p r v bs t n last f s ws) (hm : (q, a, b) ∈ ws) (x y : Int) : (set2 wi q (.int .i64 x) (.int .i64 y)).cell? ⟨q, 0, none⟩ = some (.int .i64 x) ∧ (set2 wi q (.int .i64 x) (.int .i64 y)).cell? ⟨q, 1, none⟩ = some (.int .i64 y) :=
  ((h.bx _ hm).1.set x y).c
end
theorem results_tct {P : Program} {fn : Func} {p t u : Tmp} {ty : TypeId} (h : fn.results = #[.tmp t, .cell p ty, .tmp u]) (tmps : Array Value) (w : World) (g : Nat) (t' : TypeId) (cs : Array Value) (fr : Nat × Nat) (d : TypeDesc)
    (hp : tmps.getD p undef = .pointer (some ⟨g, 0, none⟩)) (hg : w.heap[g]? = some (.cells cs t' fr))
    (hu : P.underlying ty = some d) (hd : (match d with | .struct _ | .array _ _ => true | _ => false) = true) (hi : (P.info? ty).map (·.size) = some cs.size) :
    (results fn tmps).run P w = .ok (.tuple #[tmps.getD t undef, .agg cs, tmps.getD u undef]) w := by
  have hp' : tmps[p]?.getD undef = .pointer (some ⟨g, 0, none⟩) := by simpa using hp
  simp [results, h, hp', asAddr, run_loadVar_row w g t' ty cs fr d hg hu hd hi]
theorem nx_end {fn : Func} {t p u : Tmp} {a : Act} {P : Ending → World → Prop} {w : World} {q : Nat} {f s : Int} {x y : Value} (hres : fn.results = #[.tmp t, .cell p 91, .tmp u]) (hp : a.tmps.getD p undef = .pointer (some ⟨q, 0, none⟩)) (hd : a.defers = [])
    (hg : WinBox w q f s) (hx : a.tmps.getD t undef = x) (hy : a.tmps.getD u undef = y) (h : P (.returned (.tuple #[x, .agg #[.int .i64 f, .int .i64 s], y])) w) : bodyPost Tryd.prog fn P .ret a w :=
  bodyPost_ret (v := .tuple #[x, .agg #[.int .i64 f, .int .i64 s], y]) (by rw [← hx, ← hy]; exact results_tct hres _ _ q 91 _ (0, 0) _ hp hg Tryd.underlying91 rfl win_info) hd h
theorem told_facts (T F S : Nat) (hT : T = F * 64 + (S - 1)) (hF : F ≤ 31) (hS1 : 1 ≤ S) (hS : S ≤ 64) : ∃ S1 : Nat, (T : Int) / 64 = (F : Int) ∧ bits .and .u64 (T : Int) 63 = (S1 : Int) ∧ IntKind.i64.wrap (S1 : Int) = (S1 : Int) ∧ IntKind.i64.wrap ((S1 : Int) + 1) = (S : Int) ∧ IntKind.i64.wrap (F : Int) = (F : Int) := by
  refine ⟨S - 1, by omega, ?_, IntWalk.i64_in _ ⟨by omega, by omega⟩, by rw [IntWalk.i64_in _ ⟨by omega, by omega⟩]; omega, IntWalk.i64_in _ ⟨by omega, by omega⟩⟩
  have := u64_and_nat T 63 (by omega) (by omega)
  rw [show T &&& 63 = T % 64 from Nat.and_two_pow_sub_one_eq_mod T 6] at this
  have h : T % 64 = S - 1 := by omega
  rw [h] at this
  exact this
/-- What taking turned bits leaves: they, the window from then on, an error. -/
def XNx (w : World) (B p : Nat) (v : Value) (bs : List Bool) (t V N E f s : Nat) (e : Ending) (w' : World) : Prop :=
  ∃ V' f' s' : Nat, e = .returned (.tuple #[.int .u64 (V' : Int), winV f' s', .int .i64 (E : Int)]) ∧ (E = 0 → V' = V ∧ f' = f ∧ s' = s) ∧ (∃ t', BrAt w' B p v bs t' ∧ (E = 0 → t' = t + N)) ∧ Kept (fun k => k = p) w w'

set_option maxHeartbeats 4000000 in
set_option maxRecDepth 100000 in
theorem xinNew_short (B p r : Nat) (v : Value) (bs : List Bool) (t n last f s : Nat) (w : World) (HR : BrAt w B p v bs t) (HX : XRow w r n last f s) (hB : 2 < p) (hrp : r ≠ p) (HT : BruTab w) (hl : bs.length ≤ 100000000) (hsh : (bs.drop t).length < 11) (V N F S : Nat) :
    Calls Tryd.prog 78 #[.pointer (some ⟨r, 0, none⟩), .pointer (some ⟨p, 0, none⟩)] w (XNx w B p v bs t V N 2 F S) := by
  have HI := InS.new (InS.mk (ws := []) HR HX (fun e he => by simp at he) HT (Kept.refl _ _) hrp hB HR.lt) 0 0
  have HI0 := Lib.hid HI
  rw [List.length_drop] at hsh
  have hT : 2 = 0 → t = t + N := fun h => absurd h (by decide)
  have HTT := Lib.hid hT
  have HT1 := Lib.hid (btake_no B p v bs t 11 _ HI.rd (by omega) (.inr (.inr (by omega))))
  unfold XNx winV
  clear HR HX HT HI hsh hT
  go_enter Tryd.func78, Tryd.ntmps78
  go_wp2_with fail
  refine (HT1.out).mono ?_
  rintro e w1 ⟨rfl, hq1, k1⟩
  have HI1 := Lib.hid (HI0.out.took k1 hq1)
  clear hq1 k1
  obtain ⟨z0, z1⟩ := ((HI1.out).bx (w.heap.size, 0, 0) (by simp)).1.c
  have fr0 := ((HI1.out).bx (w.heap.size, 0, 0) (by simp)).1.f 0
  have fr1 := ((HI1.out).bx (w.heap.size, 0, 0) (by simp)).1.f 1
  go_wp2
  refine nx_end Tryd.results78 rfl rfl ((HI1.out.bx (w.heap.size, 0, 0) (by simp)).1.set 0 0) rfl rfl ?_
  have hfin := HI1.out.fin (q := w.heap.size) (a := 0) (b := 0) (by simp) 0 0
  exact ⟨0, 0, 0, rfl, fun h => absurd h (by decide), ⟨t, hfin.1, HTT.out⟩, hfin.2⟩

set_option maxHeartbeats 4000000 in
set_option maxRecDepth 100000 in
theorem xinNew_any (B p r : Nat) (v : Value) (bs : List Bool) (t n last f s F S V E : Nat) (w : World) (HR : BrAt w B p v bs t) (HX : XRow w r n last f s) (hB : 2 < p) (hrp : r ≠ p) (HT : BruTab w) (hl : bs.length ≤ 100000000) (hok : okW f s)
    (hT : 11 ≤ (bs.drop t).length) (hF : F ≤ 31) (hS1 : 1 ≤ S) (hS : S ≤ 64) (hFS : numB ((bs.drop t).take 11) = F * 64 + (S - 1))
    (hc : (64 < F + S ∧ E = 3) ∨ (F + S ≤ 64 ∧ (bs.drop (t + 11)).length < S ∧ E = 2) ∨ (F + S ≤ 64 ∧ S ≤ (bs.drop (t + 11)).length ∧ ∃ y, y = numB ((bs.drop (t + 11)).take S) ∧ y < 2 ^ S ∧
      ((y = 0 ∧ E = 3) ∨ (y ≠ 0 ∧ (0 < s ∧ inW f s (outX F S y)) ∧ E = 3) ∨ (y ≠ 0 ∧ ¬ (0 < s ∧ inW f s (outX F S y)) ∧ (newF (outX F S y) ≠ F ∨ newS (outX F S y) ≠ S) ∧ E = 3) ∨
       (y ≠ 0 ∧ ¬ (0 < s ∧ inW f s (outX F S y)) ∧ newF (outX F S y) = F ∧ newS (outX F S y) = S ∧ E = 0 ∧ V = outX F S y)))) :
    Calls Tryd.prog 78 #[.pointer (some ⟨r, 0, none⟩), .pointer (some ⟨p, 0, none⟩)] w (XNx w B p v bs t V (11 + S) E F S) := by
  have HI := InS.new (InS.mk (ws := []) HR HX (fun e he => by simp at he) HT (Kept.refl _ _) hrp hB HR.lt) 0 0
  have HI0 := Lib.hid HI
  have hlen := HR.taken
  have hdl : (bs.drop t).length = bs.length - t := List.length_drop
  have ht1 := btake_yes B p v bs t 11 _ HI.rd (by omega) (by omega) (by omega)
  rw [hFS] at ht1
  obtain ⟨T, hTe⟩ : ∃ T, T = F * 64 + (S - 1) := ⟨_, rfl⟩
  rw [← hTe] at ht1
  have HT1 := Lib.hid ht1
  obtain ⟨S1, e1, e3, e4, e5, e2⟩ := told_facts T F S hTe hF hS1 hS
  have HBH := Lib.hid (behind_any F S (by omega) (by omega))
  unfold XNx winV
  unfold winV at HBH
  clear HR HX HT HI ht1 hFS hdl hTe
  rcases hc with ⟨hlt, rfl⟩ | hc
  · have hneg : 64 - (F : Int) - (S : Int) < 0 := by omega
    clear hT hS1 hS hF hlt
    go_enter Tryd.func78, Tryd.ntmps78
    go_wp2_with fail
    refine (HT1.out).mono ?_
    rintro e w1 ⟨rfl, hq1, k1⟩
    have HI1 := Lib.hid (HI0.out.took k1 hq1)
    clear hq1 k1
    obtain ⟨w2, hw2⟩ : ∃ w', w' = w1.alloc (.cells #[.int .i64 (F : Int), .int .i64 (S : Int)] 91) := ⟨_, rfl⟩
    have HI2 := Lib.hid (HI1.out.new (F : Int) (S : Int))
    rw [← hw2] at HI2
    have HW2 := Lib.hid hw2
    clear hw2
    go_wp2_with fail
    rw [← HW2.out]
    obtain ⟨c0, c1⟩ := ((HI2.out).bx (w1.heap.size, (F : Int), (S : Int)) (by simp)).1.c
    go_wp2_with fail
    refine (HBH.out _).mono ?_
    rintro e w3 ⟨rfl, k3⟩
    have HI3 := Lib.hid (HI2.out.on k3)
    clear k3 c0 c1
    obtain ⟨z0, z1⟩ := ((HI3.out).bx (w.heap.size, 0, 0) (by simp)).1.c
    have fr0 := ((HI3.out).bx (w.heap.size, 0, 0) (by simp)).1.f 0
    have fr1 := ((HI3.out).bx (w.heap.size, 0, 0) (by simp)).1.f 1
    go_wp2
    refine nx_end Tryd.results78 rfl rfl ((HI3.out.bx (w.heap.size, 0, 0) (by simp)).1.set 0 0) rfl rfl ?_
    have hfin := HI3.out.fin (q := w.heap.size) (a := 0) (b := 0) (by simp) 0 0
    exact ⟨0, 0, 0, rfl, fun h => absurd h (by decide), ⟨(t + 11), hfin.1, fun h => absurd h (by decide)⟩, hfin.2⟩
  · have hnn : ¬ 64 - (F : Int) - (S : Int) < 0 := by omega
    have XT := Lib.hid fun w' (h : BrAt w' B p v bs (t + 11)) => xtake_any B p v bs (t + 11) F S w' h hS1 (by omega) hl
    unfold winV at XT
    rcases hc with ⟨hs, hlt, rfl⟩ | ⟨hs, hlt, y, hy, hy2, hc⟩
    · have XT1 := Lib.hid fun w' h => (XT.out w' h).1 hlt
      clear hT hS1 hS hF hlt hs XT
      go_enter Tryd.func78, Tryd.ntmps78
      go_wp2_with fail
      refine (HT1.out).mono ?_
      rintro e w1 ⟨rfl, hq1, k1⟩
      have HI1 := Lib.hid (HI0.out.took k1 hq1)
      clear hq1 k1
      obtain ⟨w2, hw2⟩ : ∃ w', w' = w1.alloc (.cells #[.int .i64 (F : Int), .int .i64 (S : Int)] 91) := ⟨_, rfl⟩
      have HI2 := Lib.hid (HI1.out.new (F : Int) (S : Int))
      rw [← hw2] at HI2
      have HW2 := Lib.hid hw2
      clear hw2
      go_wp2_with fail
      rw [← HW2.out]
      obtain ⟨c0, c1⟩ := ((HI2.out).bx (w1.heap.size, (F : Int), (S : Int)) (by simp)).1.c
      go_wp2_with fail
      refine (HBH.out _).mono ?_
      rintro e w3 ⟨rfl, k3⟩
      have HI3 := Lib.hid (HI2.out.on k3)
      clear k3 c0 c1
      obtain ⟨c0, c1⟩ := ((HI3.out).bx (w1.heap.size, (F : Int), (S : Int)) (by simp)).1.c
      go_wp2_with fail
      refine (XT1.out _ HI3.out.rd).mono ?_
      rintro e w4 ⟨rfl, ⟨t4, hr4, ht4⟩, k4⟩
      have HI4 := Lib.hid (HI3.out.took k4 hr4)
      have HT4 := Lib.hid ht4
      clear k4 hr4 ht4 c0 c1
      have hlt1 := (HI1.out.bx (w.heap.size, 0, 0) (by simp)).1.lt
      have HNE := Lib.hid (show w1.heap.size ≠ w.heap.size by omega)
      clear hlt1
      go_wp2
      have HI4d := Lib.hid (HI4.out.on (Kept.refl _ _).drew)
      have HS4 := Lib.hid (HI4d.out.reg (q := w1.heap.size) (a := (F : Int)) (b := (S : Int)) (by simp))
      go_wp2
      refine AnyBut.start (S := fun w' => (w'.cell? ⟨w1.heap.size, 0, none⟩ = some (.int .i64 (F : Int)) ∧ w'.cell? ⟨w1.heap.size, 1, none⟩ = some (.int .i64 (S : Int))) ∧ (w'.cell? ⟨r, 2, none⟩ = some (.int .i64 (f : Int)) ∧ w'.cell? ⟨r, 3, none⟩ = some (.int .i64 (s : Int)))) (k := 16) (by kernel_rfl) ?_
      refine AnyBut.takeS (i := 0) (v := ?v1) rfl (by kernel_rfl) (Nat.le_of_eq (by kernel_rfl)) (by kernel_rfl) (by kernel_rfl) (fun _ _ _ h => h) (HS4.out) (Or.inl ⟨by kernel_rfl, ?hy1⟩) ?r1
      case hy1 =>
        intro w hSw
        try dsimp only at hSw
        go_simp
        try with_reducible rfl
      try simp only [Act.put, List.getElem_toArray, List.getElem_cons_zero, List.setIfInBounds_toArray, List.set_cons_zero, List.set_cons_succ]
      refine AnyBut.takeS (i := 1) (v := ?v2) rfl (by kernel_rfl) (Nat.le_of_eq (by kernel_rfl)) (by kernel_rfl) (by kernel_rfl) (fun _ _ _ h => h) (HS4.out) (Or.inl ⟨by kernel_rfl, ?hy2⟩) ?r2
      case hy2 =>
        intro w hSw
        try dsimp only at hSw
        go_simp
        try with_reducible rfl
      try simp only [Act.put, List.getElem_toArray, List.getElem_cons_succ, List.getElem_cons_zero, List.setIfInBounds_toArray, List.set_cons_zero, List.set_cons_succ]
      refine AnyBut.takeS (i := 2) (v := ?v3) rfl (by kernel_rfl) (Nat.le_of_eq (by kernel_rfl)) (by kernel_rfl) (by kernel_rfl) (fun _ _ _ h => h) (HS4.out) (Or.inl ⟨by kernel_rfl, ?hy3⟩) ?r3
      case hy3 =>
        intro w hSw
        try dsimp only at hSw
        go_simp
        try with_reducible rfl
      try simp only [Act.put, List.getElem_toArray, List.getElem_cons_succ, List.getElem_cons_zero, List.setIfInBounds_toArray, List.set_cons_zero, List.set_cons_succ]
      refine AnyBut.takeS (i := 3) (v := undef) rfl (by kernel_rfl) (Nat.le_of_eq (by kernel_rfl)) (by kernel_rfl) (by kernel_rfl) (fun _ _ _ h => h) (HS4.out) (Or.inr ⟨by kernel_rfl, rfl⟩) ?r4
      try simp only [Act.put, List.getElem_toArray, List.getElem_cons_succ, List.getElem_cons_zero, List.setIfInBounds_toArray, List.set_cons_zero, List.set_cons_succ]
      refine AnyBut.takeS (i := 4) (v := undef) rfl (by kernel_rfl) (Nat.le_of_eq (by kernel_rfl)) (by kernel_rfl) (by kernel_rfl) (fun _ _ _ h => h) (HS4.out) (Or.inr ⟨by kernel_rfl, rfl⟩) ?r5
      try simp only [Act.put, List.getElem_toArray, List.getElem_cons_succ, List.getElem_cons_zero, List.setIfInBounds_toArray, List.set_cons_zero, List.set_cons_succ]
      refine AnyBut.takeS (i := 5) (v := undef) rfl (by kernel_rfl) (Nat.le_of_eq (by kernel_rfl)) (by kernel_rfl) (by kernel_rfl) (fun _ _ _ h => h) (HS4.out) (Or.inr ⟨by kernel_rfl, rfl⟩) ?r6
      try simp only [Act.put, List.getElem_toArray, List.getElem_cons_succ, List.getElem_cons_zero, List.setIfInBounds_toArray, List.set_cons_zero, List.set_cons_succ]
      refine AnyBut.takeS (i := 6) (v := undef) rfl (by kernel_rfl) (Nat.le_of_eq (by kernel_rfl)) (by kernel_rfl) (by kernel_rfl) (fun _ _ _ h => h) (HS4.out) (Or.inr ⟨by kernel_rfl, rfl⟩) ?r7
      try simp only [Act.put, List.getElem_toArray, List.getElem_cons_succ, List.getElem_cons_zero, List.setIfInBounds_toArray, List.set_cons_zero, List.set_cons_succ]
      refine AnyBut.takeS (i := 7) (v := undef) rfl (by kernel_rfl) (Nat.le_of_eq (by kernel_rfl)) (by kernel_rfl) (by kernel_rfl) (fun _ _ _ h => h) (HS4.out) (Or.inr ⟨by kernel_rfl, rfl⟩) ?r8
      try simp only [Act.put, List.getElem_toArray, List.getElem_cons_succ, List.getElem_cons_zero, List.setIfInBounds_toArray, List.set_cons_zero, List.set_cons_succ]
      refine AnyBut.takeS (i := 8) (v := undef) rfl (by kernel_rfl) (Nat.le_of_eq (by kernel_rfl)) (by kernel_rfl) (by kernel_rfl) (fun _ _ _ h => h) (HS4.out) (Or.inr ⟨by kernel_rfl, rfl⟩) ?r9
      try simp only [Act.put, List.getElem_toArray, List.getElem_cons_succ, List.getElem_cons_zero, List.setIfInBounds_toArray, List.set_cons_zero, List.set_cons_succ]
      refine AnyBut.takeS (i := 9) (v := undef) rfl (by kernel_rfl) (Nat.le_of_eq (by kernel_rfl)) (by kernel_rfl) (by kernel_rfl) (fun _ _ _ h => h) (HS4.out) (Or.inr ⟨by kernel_rfl, rfl⟩) ?r10
      try simp only [Act.put, List.getElem_toArray, List.getElem_cons_succ, List.getElem_cons_zero, List.setIfInBounds_toArray, List.set_cons_zero, List.set_cons_succ]
      refine AnyBut.takeS (i := 10) (v := undef) rfl (by kernel_rfl) (Nat.le_of_eq (by kernel_rfl)) (by kernel_rfl) (by kernel_rfl) (fun _ _ _ h => h) (HS4.out) (Or.inr ⟨by kernel_rfl, rfl⟩) ?r11
      try simp only [Act.put, List.getElem_toArray, List.getElem_cons_succ, List.getElem_cons_zero, List.setIfInBounds_toArray, List.set_cons_zero, List.set_cons_succ]
      refine AnyBut.takeS (i := 11) (v := undef) rfl (by kernel_rfl) (Nat.le_of_eq (by kernel_rfl)) (by kernel_rfl) (by kernel_rfl) (fun _ _ _ h => h) (HS4.out) (Or.inr ⟨by kernel_rfl, rfl⟩) ?r12
      try simp only [Act.put, List.getElem_toArray, List.getElem_cons_succ, List.getElem_cons_zero, List.setIfInBounds_toArray, List.set_cons_zero, List.set_cons_succ]
      refine AnyBut.takeS (i := 12) (v := undef) rfl (by kernel_rfl) (Nat.le_of_eq (by kernel_rfl)) (by kernel_rfl) (by kernel_rfl) (fun _ _ _ h => h) (HS4.out) (Or.inr ⟨by kernel_rfl, rfl⟩) ?r13
      try simp only [Act.put, List.getElem_toArray, List.getElem_cons_succ, List.getElem_cons_zero, List.setIfInBounds_toArray, List.set_cons_zero, List.set_cons_succ]
      refine AnyBut.takeS (i := 13) (v := undef) rfl (by kernel_rfl) (Nat.le_of_eq (by kernel_rfl)) (by kernel_rfl) (by kernel_rfl) (fun _ _ _ h => h) (HS4.out) (Or.inr ⟨by kernel_rfl, rfl⟩) ?r14
      try simp only [Act.put, List.getElem_toArray, List.getElem_cons_succ, List.getElem_cons_zero, List.setIfInBounds_toArray, List.set_cons_zero, List.set_cons_succ]
      refine AnyBut.takeS (i := 14) (v := undef) rfl (by kernel_rfl) (Nat.le_of_eq (by kernel_rfl)) (by kernel_rfl) (by kernel_rfl) (fun _ _ _ h => h) (HS4.out) (Or.inr ⟨by kernel_rfl, rfl⟩) ?r15
      try simp only [Act.put, List.getElem_toArray, List.getElem_cons_succ, List.getElem_cons_zero, List.setIfInBounds_toArray, List.set_cons_zero, List.set_cons_succ]
      refine AnyBut.takeS (i := 15) (v := ?v16) rfl (by kernel_rfl) (Nat.le_of_eq (by kernel_rfl)) (by kernel_rfl) (by kernel_rfl) (fun _ _ _ h => h) (HS4.out) (Or.inl ⟨by kernel_rfl, ?hy16⟩) ?r16
      case hy16 =>
        intro w hSw
        try dsimp only at hSw
        go_simp
        try with_reducible rfl
      try simp only [Act.put, List.getElem_toArray, List.getElem_cons_succ, List.getElem_cons_zero, List.setIfInBounds_toArray, List.set_cons_zero, List.set_cons_succ]
      refine AnyBut.done (by kernel_rfl) ?_
      go_wp2
      refine AnyBut.start (S := fun w' => w'.cell? ⟨w1.heap.size, 0, none⟩ = some (.int .i64 (F : Int)) ∧ w'.cell? ⟨w1.heap.size, 1, none⟩ = some (.int .i64 (S : Int))) (k := 6) (by kernel_rfl) ?_
      have hi5 := HI4d.out.on (Kept.refl _ _).drew
      obtain ⟨wd, hwd⟩ : ∃ w', w' = w4.drew.drew := ⟨_, rfl⟩
      rw [← hwd] at hi5 ⊢
      have HI5r := Lib.hid hi5
      clear hi5 hwd
      have HSE := Lib.hid ((HI5r.out.bx (w1.heap.size, (F : Int), (S : Int)) (by simp)).1.c)
      have HSF := Lib.hid (HI5r.out.fin2 (q := w.heap.size) (a := 0) (b := 0) (q' := w1.heap.size) (a' := (F : Int)) (b' := (S : Int)) (by simp) (by simp) HNE.out (F : Int) (S : Int))
      refine AnyBut.takeS (i := 0) (v := ?v17) rfl (by kernel_rfl) (Nat.le_of_eq (by kernel_rfl)) (by kernel_rfl) (by kernel_rfl) (fun _ _ _ h => h) (HSE.out) (Or.inl ⟨by kernel_rfl, ?hy17⟩) ?r17
      case hy17 =>
        intro w hSw
        try dsimp only at hSw
        go_simp
        try with_reducible rfl
      try simp only [Act.put, List.getElem_toArray, List.getElem_cons_zero, List.setIfInBounds_toArray, List.set_cons_zero, List.set_cons_succ]
      refine AnyBut.takeS (i := 1) (v := ?v18) rfl (by kernel_rfl) (Nat.le_of_eq (by kernel_rfl)) (by kernel_rfl) (by kernel_rfl) (fun _ _ _ h => h) (HSE.out) (Or.inl ⟨by kernel_rfl, ?hy18⟩) ?r18
      case hy18 =>
        intro w hSw
        try dsimp only at hSw
        go_simp
        try with_reducible rfl
      try simp only [Act.put, List.getElem_toArray, List.getElem_cons_succ, List.getElem_cons_zero, List.setIfInBounds_toArray, List.set_cons_zero, List.set_cons_succ]
      refine AnyBut.takeS (i := 2) (v := ?v19) rfl (by kernel_rfl) (Nat.le_of_eq (by kernel_rfl)) (by kernel_rfl) (by kernel_rfl) (fun _ _ _ h => h) (HSE.out) (Or.inl ⟨by kernel_rfl, ?hy19⟩) ?r19
      case hy19 =>
        intro w hSw
        try dsimp only at hSw
        go_simp
        try with_reducible rfl
      try simp only [Act.put, List.getElem_toArray, List.getElem_cons_succ, List.getElem_cons_zero, List.setIfInBounds_toArray, List.set_cons_zero, List.set_cons_succ]
      refine AnyBut.takeS (i := 3) (v := ?v20) rfl (by kernel_rfl) (Nat.le_of_eq (by kernel_rfl)) (by kernel_rfl) (by kernel_rfl) (fun _ _ _ h => h) (HSE.out) (Or.inl ⟨by kernel_rfl, ?hy20⟩) ?r20
      case hy20 =>
        intro w hSw
        try dsimp only at hSw
        go_simp
        try with_reducible rfl
      try simp only [Act.put, List.getElem_toArray, List.getElem_cons_succ, List.getElem_cons_zero, List.setIfInBounds_toArray, List.set_cons_zero, List.set_cons_succ]
      refine AnyBut.one (i := 4) (by kernel_rfl) rfl (fun K hK => ?_)
      obtain ⟨z0, z1⟩ := ((HI5r.out).bx (w.heap.size, 0, 0) (by simp)).1.c
      have fr0 := ((HI5r.out).bx (w.heap.size, 0, 0) (by simp)).1.f 0
      have fr1 := ((HI5r.out).bx (w.heap.size, 0, 0) (by simp)).1.f 1
      go_simp
      go_wp2
      refine hK.out _ _ (HSF.out) ?_
      clear hK K
      try simp only [Act.put, List.getElem_toArray, List.getElem_cons_succ, List.getElem_cons_zero, List.setIfInBounds_toArray, List.set_cons_zero, List.set_cons_succ]
      refine AnyBut.takeS (i := 5) (v := ?v21) rfl (by kernel_rfl) (Nat.le_of_eq (by kernel_rfl)) (by kernel_rfl) (by kernel_rfl) (fun _ _ _ h => h) (HSF.out) (Or.inl ⟨by kernel_rfl, ?hy21⟩) ?r21
      case hy21 =>
        intro w hSw
        try dsimp only at hSw
        go_simp
        try with_reducible rfl
      try simp only [Act.put, List.getElem_toArray, List.getElem_cons_succ, List.getElem_cons_zero, List.setIfInBounds_toArray, List.set_cons_zero, List.set_cons_succ]
      refine AnyBut.done (by kernel_rfl) ?_
      go_wp2
      refine nx_end Tryd.results78 rfl rfl ((HI5r.out.bx (w.heap.size, 0, 0) (by simp)).1.set (F : Int) (S : Int)) rfl rfl ?_
      have hfin := HI5r.out.fin (q := w.heap.size) (a := 0) (b := 0) (by simp) (F : Int) (S : Int)
      exact ⟨0, F, S, rfl, fun h => absurd h (by decide), ⟨t4, hfin.1, fun h => absurd h (by decide)⟩, hfin.2⟩
    · rcases hc with ⟨h0, rfl⟩ | hc
      · have XT1 := Lib.hid fun w' h => (XT.out w' h).2.1 y hlt hy h0
        clear hT hS1 hS hF hlt hs XT hy hy2 h0
        go_enter Tryd.func78, Tryd.ntmps78
        go_wp2_with fail
        refine (HT1.out).mono ?_
        rintro e w1 ⟨rfl, hq1, k1⟩
        have HI1 := Lib.hid (HI0.out.took k1 hq1)
        clear hq1 k1
        obtain ⟨w2, hw2⟩ : ∃ w', w' = w1.alloc (.cells #[.int .i64 (F : Int), .int .i64 (S : Int)] 91) := ⟨_, rfl⟩
        have HI2 := Lib.hid (HI1.out.new (F : Int) (S : Int))
        rw [← hw2] at HI2
        have HW2 := Lib.hid hw2
        clear hw2
        go_wp2_with fail
        rw [← HW2.out]
        obtain ⟨c0, c1⟩ := ((HI2.out).bx (w1.heap.size, (F : Int), (S : Int)) (by simp)).1.c
        go_wp2_with fail
        refine (HBH.out _).mono ?_
        rintro e w3 ⟨rfl, k3⟩
        have HI3 := Lib.hid (HI2.out.on k3)
        clear k3 c0 c1
        obtain ⟨c0, c1⟩ := ((HI3.out).bx (w1.heap.size, (F : Int), (S : Int)) (by simp)).1.c
        go_wp2_with fail
        refine (XT1.out _ HI3.out.rd).mono ?_
        rintro e w4 ⟨rfl, ⟨t4, hr4, ht4⟩, k4⟩
        have HI4 := Lib.hid (HI3.out.took k4 hr4)
        have HT4 := Lib.hid ht4
        clear k4 hr4 ht4 c0 c1
        have hlt1 := (HI1.out.bx (w.heap.size, 0, 0) (by simp)).1.lt
        have HNE := Lib.hid (show w1.heap.size ≠ w.heap.size by omega)
        clear hlt1
        go_wp2
        have HI4d := Lib.hid (HI4.out.on (Kept.refl _ _).drew)
        have HS4 := Lib.hid (HI4d.out.reg (q := w1.heap.size) (a := (F : Int)) (b := (S : Int)) (by simp))
        go_wp2
        refine AnyBut.start (S := fun w' => (w'.cell? ⟨w1.heap.size, 0, none⟩ = some (.int .i64 (F : Int)) ∧ w'.cell? ⟨w1.heap.size, 1, none⟩ = some (.int .i64 (S : Int))) ∧ (w'.cell? ⟨r, 2, none⟩ = some (.int .i64 (f : Int)) ∧ w'.cell? ⟨r, 3, none⟩ = some (.int .i64 (s : Int)))) (k := 16) (by kernel_rfl) ?_
        refine AnyBut.takeS (i := 0) (v := ?v22) rfl (by kernel_rfl) (Nat.le_of_eq (by kernel_rfl)) (by kernel_rfl) (by kernel_rfl) (fun _ _ _ h => h) (HS4.out) (Or.inl ⟨by kernel_rfl, ?hy22⟩) ?r22
        case hy22 =>
          intro w hSw
          try dsimp only at hSw
          go_simp
          try with_reducible rfl
        try simp only [Act.put, List.getElem_toArray, List.getElem_cons_zero, List.setIfInBounds_toArray, List.set_cons_zero, List.set_cons_succ]
        refine AnyBut.takeS (i := 1) (v := ?v23) rfl (by kernel_rfl) (Nat.le_of_eq (by kernel_rfl)) (by kernel_rfl) (by kernel_rfl) (fun _ _ _ h => h) (HS4.out) (Or.inl ⟨by kernel_rfl, ?hy23⟩) ?r23
        case hy23 =>
          intro w hSw
          try dsimp only at hSw
          go_simp
          try with_reducible rfl
        try simp only [Act.put, List.getElem_toArray, List.getElem_cons_succ, List.getElem_cons_zero, List.setIfInBounds_toArray, List.set_cons_zero, List.set_cons_succ]
        refine AnyBut.takeS (i := 2) (v := ?v24) rfl (by kernel_rfl) (Nat.le_of_eq (by kernel_rfl)) (by kernel_rfl) (by kernel_rfl) (fun _ _ _ h => h) (HS4.out) (Or.inl ⟨by kernel_rfl, ?hy24⟩) ?r24
        case hy24 =>
          intro w hSw
          try dsimp only at hSw
          go_simp
          try with_reducible rfl
        try simp only [Act.put, List.getElem_toArray, List.getElem_cons_succ, List.getElem_cons_zero, List.setIfInBounds_toArray, List.set_cons_zero, List.set_cons_succ]
        refine AnyBut.takeS (i := 3) (v := undef) rfl (by kernel_rfl) (Nat.le_of_eq (by kernel_rfl)) (by kernel_rfl) (by kernel_rfl) (fun _ _ _ h => h) (HS4.out) (Or.inr ⟨by kernel_rfl, rfl⟩) ?r25
        try simp only [Act.put, List.getElem_toArray, List.getElem_cons_succ, List.getElem_cons_zero, List.setIfInBounds_toArray, List.set_cons_zero, List.set_cons_succ]
        refine AnyBut.takeS (i := 4) (v := undef) rfl (by kernel_rfl) (Nat.le_of_eq (by kernel_rfl)) (by kernel_rfl) (by kernel_rfl) (fun _ _ _ h => h) (HS4.out) (Or.inr ⟨by kernel_rfl, rfl⟩) ?r26
        try simp only [Act.put, List.getElem_toArray, List.getElem_cons_succ, List.getElem_cons_zero, List.setIfInBounds_toArray, List.set_cons_zero, List.set_cons_succ]
        refine AnyBut.takeS (i := 5) (v := undef) rfl (by kernel_rfl) (Nat.le_of_eq (by kernel_rfl)) (by kernel_rfl) (by kernel_rfl) (fun _ _ _ h => h) (HS4.out) (Or.inr ⟨by kernel_rfl, rfl⟩) ?r27
        try simp only [Act.put, List.getElem_toArray, List.getElem_cons_succ, List.getElem_cons_zero, List.setIfInBounds_toArray, List.set_cons_zero, List.set_cons_succ]
        refine AnyBut.takeS (i := 6) (v := undef) rfl (by kernel_rfl) (Nat.le_of_eq (by kernel_rfl)) (by kernel_rfl) (by kernel_rfl) (fun _ _ _ h => h) (HS4.out) (Or.inr ⟨by kernel_rfl, rfl⟩) ?r28
        try simp only [Act.put, List.getElem_toArray, List.getElem_cons_succ, List.getElem_cons_zero, List.setIfInBounds_toArray, List.set_cons_zero, List.set_cons_succ]
        refine AnyBut.takeS (i := 7) (v := undef) rfl (by kernel_rfl) (Nat.le_of_eq (by kernel_rfl)) (by kernel_rfl) (by kernel_rfl) (fun _ _ _ h => h) (HS4.out) (Or.inr ⟨by kernel_rfl, rfl⟩) ?r29
        try simp only [Act.put, List.getElem_toArray, List.getElem_cons_succ, List.getElem_cons_zero, List.setIfInBounds_toArray, List.set_cons_zero, List.set_cons_succ]
        refine AnyBut.takeS (i := 8) (v := undef) rfl (by kernel_rfl) (Nat.le_of_eq (by kernel_rfl)) (by kernel_rfl) (by kernel_rfl) (fun _ _ _ h => h) (HS4.out) (Or.inr ⟨by kernel_rfl, rfl⟩) ?r30
        try simp only [Act.put, List.getElem_toArray, List.getElem_cons_succ, List.getElem_cons_zero, List.setIfInBounds_toArray, List.set_cons_zero, List.set_cons_succ]
        refine AnyBut.takeS (i := 9) (v := undef) rfl (by kernel_rfl) (Nat.le_of_eq (by kernel_rfl)) (by kernel_rfl) (by kernel_rfl) (fun _ _ _ h => h) (HS4.out) (Or.inr ⟨by kernel_rfl, rfl⟩) ?r31
        try simp only [Act.put, List.getElem_toArray, List.getElem_cons_succ, List.getElem_cons_zero, List.setIfInBounds_toArray, List.set_cons_zero, List.set_cons_succ]
        refine AnyBut.takeS (i := 10) (v := undef) rfl (by kernel_rfl) (Nat.le_of_eq (by kernel_rfl)) (by kernel_rfl) (by kernel_rfl) (fun _ _ _ h => h) (HS4.out) (Or.inr ⟨by kernel_rfl, rfl⟩) ?r32
        try simp only [Act.put, List.getElem_toArray, List.getElem_cons_succ, List.getElem_cons_zero, List.setIfInBounds_toArray, List.set_cons_zero, List.set_cons_succ]
        refine AnyBut.takeS (i := 11) (v := undef) rfl (by kernel_rfl) (Nat.le_of_eq (by kernel_rfl)) (by kernel_rfl) (by kernel_rfl) (fun _ _ _ h => h) (HS4.out) (Or.inr ⟨by kernel_rfl, rfl⟩) ?r33
        try simp only [Act.put, List.getElem_toArray, List.getElem_cons_succ, List.getElem_cons_zero, List.setIfInBounds_toArray, List.set_cons_zero, List.set_cons_succ]
        refine AnyBut.takeS (i := 12) (v := undef) rfl (by kernel_rfl) (Nat.le_of_eq (by kernel_rfl)) (by kernel_rfl) (by kernel_rfl) (fun _ _ _ h => h) (HS4.out) (Or.inr ⟨by kernel_rfl, rfl⟩) ?r34
        try simp only [Act.put, List.getElem_toArray, List.getElem_cons_succ, List.getElem_cons_zero, List.setIfInBounds_toArray, List.set_cons_zero, List.set_cons_succ]
        refine AnyBut.takeS (i := 13) (v := undef) rfl (by kernel_rfl) (Nat.le_of_eq (by kernel_rfl)) (by kernel_rfl) (by kernel_rfl) (fun _ _ _ h => h) (HS4.out) (Or.inr ⟨by kernel_rfl, rfl⟩) ?r35
        try simp only [Act.put, List.getElem_toArray, List.getElem_cons_succ, List.getElem_cons_zero, List.setIfInBounds_toArray, List.set_cons_zero, List.set_cons_succ]
        refine AnyBut.takeS (i := 14) (v := undef) rfl (by kernel_rfl) (Nat.le_of_eq (by kernel_rfl)) (by kernel_rfl) (by kernel_rfl) (fun _ _ _ h => h) (HS4.out) (Or.inr ⟨by kernel_rfl, rfl⟩) ?r36
        try simp only [Act.put, List.getElem_toArray, List.getElem_cons_succ, List.getElem_cons_zero, List.setIfInBounds_toArray, List.set_cons_zero, List.set_cons_succ]
        refine AnyBut.takeS (i := 15) (v := ?v37) rfl (by kernel_rfl) (Nat.le_of_eq (by kernel_rfl)) (by kernel_rfl) (by kernel_rfl) (fun _ _ _ h => h) (HS4.out) (Or.inl ⟨by kernel_rfl, ?hy37⟩) ?r37
        case hy37 =>
          intro w hSw
          try dsimp only at hSw
          go_simp
          try with_reducible rfl
        try simp only [Act.put, List.getElem_toArray, List.getElem_cons_succ, List.getElem_cons_zero, List.setIfInBounds_toArray, List.set_cons_zero, List.set_cons_succ]
        refine AnyBut.done (by kernel_rfl) ?_
        go_wp2
        refine AnyBut.start (S := fun w' => w'.cell? ⟨w1.heap.size, 0, none⟩ = some (.int .i64 (F : Int)) ∧ w'.cell? ⟨w1.heap.size, 1, none⟩ = some (.int .i64 (S : Int))) (k := 6) (by kernel_rfl) ?_
        have hi5 := HI4d.out.on (Kept.refl _ _).drew
        obtain ⟨wd, hwd⟩ : ∃ w', w' = w4.drew.drew := ⟨_, rfl⟩
        rw [← hwd] at hi5 ⊢
        have HI5r := Lib.hid hi5
        clear hi5 hwd
        have HSE := Lib.hid ((HI5r.out.bx (w1.heap.size, (F : Int), (S : Int)) (by simp)).1.c)
        have HSF := Lib.hid (HI5r.out.fin2 (q := w.heap.size) (a := 0) (b := 0) (q' := w1.heap.size) (a' := (F : Int)) (b' := (S : Int)) (by simp) (by simp) HNE.out (F : Int) (S : Int))
        refine AnyBut.takeS (i := 0) (v := ?v38) rfl (by kernel_rfl) (Nat.le_of_eq (by kernel_rfl)) (by kernel_rfl) (by kernel_rfl) (fun _ _ _ h => h) (HSE.out) (Or.inl ⟨by kernel_rfl, ?hy38⟩) ?r38
        case hy38 =>
          intro w hSw
          try dsimp only at hSw
          go_simp
          try with_reducible rfl
        try simp only [Act.put, List.getElem_toArray, List.getElem_cons_zero, List.setIfInBounds_toArray, List.set_cons_zero, List.set_cons_succ]
        refine AnyBut.takeS (i := 1) (v := ?v39) rfl (by kernel_rfl) (Nat.le_of_eq (by kernel_rfl)) (by kernel_rfl) (by kernel_rfl) (fun _ _ _ h => h) (HSE.out) (Or.inl ⟨by kernel_rfl, ?hy39⟩) ?r39
        case hy39 =>
          intro w hSw
          try dsimp only at hSw
          go_simp
          try with_reducible rfl
        try simp only [Act.put, List.getElem_toArray, List.getElem_cons_succ, List.getElem_cons_zero, List.setIfInBounds_toArray, List.set_cons_zero, List.set_cons_succ]
        refine AnyBut.takeS (i := 2) (v := ?v40) rfl (by kernel_rfl) (Nat.le_of_eq (by kernel_rfl)) (by kernel_rfl) (by kernel_rfl) (fun _ _ _ h => h) (HSE.out) (Or.inl ⟨by kernel_rfl, ?hy40⟩) ?r40
        case hy40 =>
          intro w hSw
          try dsimp only at hSw
          go_simp
          try with_reducible rfl
        try simp only [Act.put, List.getElem_toArray, List.getElem_cons_succ, List.getElem_cons_zero, List.setIfInBounds_toArray, List.set_cons_zero, List.set_cons_succ]
        refine AnyBut.takeS (i := 3) (v := ?v41) rfl (by kernel_rfl) (Nat.le_of_eq (by kernel_rfl)) (by kernel_rfl) (by kernel_rfl) (fun _ _ _ h => h) (HSE.out) (Or.inl ⟨by kernel_rfl, ?hy41⟩) ?r41
        case hy41 =>
          intro w hSw
          try dsimp only at hSw
          go_simp
          try with_reducible rfl
        try simp only [Act.put, List.getElem_toArray, List.getElem_cons_succ, List.getElem_cons_zero, List.setIfInBounds_toArray, List.set_cons_zero, List.set_cons_succ]
        refine AnyBut.one (i := 4) (by kernel_rfl) rfl (fun K hK => ?_)
        obtain ⟨z0, z1⟩ := ((HI5r.out).bx (w.heap.size, 0, 0) (by simp)).1.c
        have fr0 := ((HI5r.out).bx (w.heap.size, 0, 0) (by simp)).1.f 0
        have fr1 := ((HI5r.out).bx (w.heap.size, 0, 0) (by simp)).1.f 1
        go_simp
        go_wp2
        refine hK.out _ _ (HSF.out) ?_
        clear hK K
        try simp only [Act.put, List.getElem_toArray, List.getElem_cons_succ, List.getElem_cons_zero, List.setIfInBounds_toArray, List.set_cons_zero, List.set_cons_succ]
        refine AnyBut.takeS (i := 5) (v := ?v42) rfl (by kernel_rfl) (Nat.le_of_eq (by kernel_rfl)) (by kernel_rfl) (by kernel_rfl) (fun _ _ _ h => h) (HSF.out) (Or.inl ⟨by kernel_rfl, ?hy42⟩) ?r42
        case hy42 =>
          intro w hSw
          try dsimp only at hSw
          go_simp
          try with_reducible rfl
        try simp only [Act.put, List.getElem_toArray, List.getElem_cons_succ, List.getElem_cons_zero, List.setIfInBounds_toArray, List.set_cons_zero, List.set_cons_succ]
        refine AnyBut.done (by kernel_rfl) ?_
        go_wp2
        refine nx_end Tryd.results78 rfl rfl ((HI5r.out.bx (w.heap.size, 0, 0) (by simp)).1.set (F : Int) (S : Int)) rfl rfl ?_
        have hfin := HI5r.out.fin (q := w.heap.size) (a := 0) (b := 0) (by simp) (F : Int) (S : Int)
        exact ⟨0, F, S, rfl, fun h => absurd h (by decide), ⟨t4, hfin.1, fun h => absurd h (by decide)⟩, hfin.2⟩
      · have h0 : y ≠ 0 := by omega
        have hxl := outX_lt F S y hs hy2
        have hx0 : outX F S y ≠ 0 := fun h => h0 ((outX_zero F S y).1 h)
        have XT1 := Lib.hid fun w' h => (XT.out w' h).2.2 y hlt hy h0
        have hle := hok.le
        have HHO := Lib.hid fun w1 (h : BruTab w1) => holds_any f s (outX F S y) (by omega) (by omega) hxl w1 h
        have hhb : holdsB f s (outX F S y) = decide (0 < s ∧ inW f s (outX F S y)) := by
          unfold holdsB
          rw [decide_eq_decide]
          unfold okW at hok
          constructor
          · rintro ⟨a, b⟩; exact ⟨by omega, b⟩
          · rintro ⟨a, b⟩; exact ⟨by omega, b⟩
        rw [hhb] at HHO
        have HAR := Lib.hid fun w1 (h : BruTab w1) => xaround_any (outX F S y) hxl hx0 w1 h
        unfold winV at HHO HAR
        obtain ⟨X, hX⟩ : ∃ X, X = outX F S y := ⟨_, rfl⟩
        rw [← hX] at XT1 HHO HAR hc
        clear hT hS1 hS hF hlt hs XT hy hy2 h0 hxl hx0 hok hle hhb hX
        rcases hc with ⟨_, h1, rfl⟩ | ⟨_, h1, h2, rfl⟩ | ⟨_, h1, h2, h3, rfl, rfl⟩
        · rw [decide_eq_true h1] at HHO
          clear h1 HAR
          go_enter Tryd.func78, Tryd.ntmps78
          go_wp2_with fail
          refine (HT1.out).mono ?_
          rintro e w1 ⟨rfl, hq1, k1⟩
          have HI1 := Lib.hid (HI0.out.took k1 hq1)
          clear hq1 k1
          obtain ⟨w2, hw2⟩ : ∃ w', w' = w1.alloc (.cells #[.int .i64 (F : Int), .int .i64 (S : Int)] 91) := ⟨_, rfl⟩
          have HI2 := Lib.hid (HI1.out.new (F : Int) (S : Int))
          rw [← hw2] at HI2
          have HW2 := Lib.hid hw2
          clear hw2
          go_wp2_with fail
          rw [← HW2.out]
          obtain ⟨c0, c1⟩ := ((HI2.out).bx (w1.heap.size, (F : Int), (S : Int)) (by simp)).1.c
          go_wp2_with fail
          refine (HBH.out _).mono ?_
          rintro e w3 ⟨rfl, k3⟩
          have HI3 := Lib.hid (HI2.out.on k3)
          clear k3 c0 c1
          obtain ⟨c0, c1⟩ := ((HI3.out).bx (w1.heap.size, (F : Int), (S : Int)) (by simp)).1.c
          go_wp2_with fail
          refine (XT1.out _ HI3.out.rd).mono ?_
          rintro e w4 ⟨rfl, ⟨t4, hr4, ht4⟩, k4⟩
          have HI4 := Lib.hid (HI3.out.took k4 hr4)
          have HT4 := Lib.hid ht4
          clear k4 hr4 ht4 c0 c1
          have hlt1 := (HI1.out.bx (w.heap.size, 0, 0) (by simp)).1.lt
          have HNE := Lib.hid (show w1.heap.size ≠ w.heap.size by omega)
          clear hlt1
          go_wp2
          have HI4d := Lib.hid (HI4.out.on (Kept.refl _ _).drew)
          have HS4 := Lib.hid (HI4d.out.reg (q := w1.heap.size) (a := (F : Int)) (b := (S : Int)) (by simp))
          go_wp2
          refine AnyBut.start (S := fun w' => (w'.cell? ⟨w1.heap.size, 0, none⟩ = some (.int .i64 (F : Int)) ∧ w'.cell? ⟨w1.heap.size, 1, none⟩ = some (.int .i64 (S : Int))) ∧ (w'.cell? ⟨r, 2, none⟩ = some (.int .i64 (f : Int)) ∧ w'.cell? ⟨r, 3, none⟩ = some (.int .i64 (s : Int)))) (k := 16) (by kernel_rfl) ?_
          refine AnyBut.takeS (i := 0) (v := ?v43) rfl (by kernel_rfl) (Nat.le_of_eq (by kernel_rfl)) (by kernel_rfl) (by kernel_rfl) (fun _ _ _ h => h) (HS4.out) (Or.inl ⟨by kernel_rfl, ?hy43⟩) ?r43
          case hy43 =>
            intro w hSw
            try dsimp only at hSw
            go_simp
            try with_reducible rfl
          try simp only [Act.put, List.getElem_toArray, List.getElem_cons_zero, List.setIfInBounds_toArray, List.set_cons_zero, List.set_cons_succ]
          refine AnyBut.takeS (i := 1) (v := ?v44) rfl (by kernel_rfl) (Nat.le_of_eq (by kernel_rfl)) (by kernel_rfl) (by kernel_rfl) (fun _ _ _ h => h) (HS4.out) (Or.inl ⟨by kernel_rfl, ?hy44⟩) ?r44
          case hy44 =>
            intro w hSw
            try dsimp only at hSw
            go_simp
            try with_reducible rfl
          try simp only [Act.put, List.getElem_toArray, List.getElem_cons_succ, List.getElem_cons_zero, List.setIfInBounds_toArray, List.set_cons_zero, List.set_cons_succ]
          refine AnyBut.takeS (i := 2) (v := ?v45) rfl (by kernel_rfl) (Nat.le_of_eq (by kernel_rfl)) (by kernel_rfl) (by kernel_rfl) (fun _ _ _ h => h) (HS4.out) (Or.inl ⟨by kernel_rfl, ?hy45⟩) ?r45
          case hy45 =>
            intro w hSw
            try dsimp only at hSw
            go_simp
            try with_reducible rfl
          try simp only [Act.put, List.getElem_toArray, List.getElem_cons_succ, List.getElem_cons_zero, List.setIfInBounds_toArray, List.set_cons_zero, List.set_cons_succ]
          refine AnyBut.takeS (i := 3) (v := ?v46) rfl (by kernel_rfl) (Nat.le_of_eq (by kernel_rfl)) (by kernel_rfl) (by kernel_rfl) (fun _ _ _ h => h) (HS4.out) (Or.inl ⟨by kernel_rfl, ?hy46⟩) ?r46
          case hy46 =>
            intro w hSw
            try dsimp only at hSw
            go_simp
            try with_reducible rfl
          try simp only [Act.put, List.getElem_toArray, List.getElem_cons_succ, List.getElem_cons_zero, List.setIfInBounds_toArray, List.set_cons_zero, List.set_cons_succ]
          refine AnyBut.takeS (i := 4) (v := ?v47) rfl (by kernel_rfl) (Nat.le_of_eq (by kernel_rfl)) (by kernel_rfl) (by kernel_rfl) (fun _ _ _ h => h) (HS4.out) (Or.inl ⟨by kernel_rfl, ?hy47⟩) ?r47
          case hy47 =>
            intro w hSw
            try dsimp only at hSw
            go_simp
            try with_reducible rfl
          try simp only [Act.put, List.getElem_toArray, List.getElem_cons_succ, List.getElem_cons_zero, List.setIfInBounds_toArray, List.set_cons_zero, List.set_cons_succ]
          refine AnyBut.takeS (i := 5) (v := ?v48) rfl (by kernel_rfl) (Nat.le_of_eq (by kernel_rfl)) (by kernel_rfl) (by kernel_rfl) (fun _ _ _ h => h) (HS4.out) (Or.inl ⟨by kernel_rfl, ?hy48⟩) ?r48
          case hy48 =>
            intro w hSw
            try dsimp only at hSw
            go_simp
            try with_reducible rfl
          try simp only [Act.put, List.getElem_toArray, List.getElem_cons_succ, List.getElem_cons_zero, List.setIfInBounds_toArray, List.set_cons_zero, List.set_cons_succ]
          refine AnyBut.takeS (i := 6) (v := ?v49) rfl (by kernel_rfl) (Nat.le_of_eq (by kernel_rfl)) (by kernel_rfl) (by kernel_rfl) (fun _ _ _ h => h) (HS4.out) (Or.inl ⟨by kernel_rfl, ?hy49⟩) ?r49
          case hy49 =>
            intro w hSw
            try dsimp only at hSw
            go_simp
            try with_reducible rfl
          try simp only [Act.put, List.getElem_toArray, List.getElem_cons_succ, List.getElem_cons_zero, List.setIfInBounds_toArray, List.set_cons_zero, List.set_cons_succ]
          refine AnyBut.takeS (i := 7) (v := ?v50) rfl (by kernel_rfl) (Nat.le_of_eq (by kernel_rfl)) (by kernel_rfl) (by kernel_rfl) (fun _ _ _ h => h) (HS4.out) (Or.inl ⟨by kernel_rfl, ?hy50⟩) ?r50
          case hy50 =>
            intro w hSw
            try dsimp only at hSw
            go_simp
            try with_reducible rfl
          try simp only [Act.put, List.getElem_toArray, List.getElem_cons_succ, List.getElem_cons_zero, List.setIfInBounds_toArray, List.set_cons_zero, List.set_cons_succ]
          refine AnyBut.one (i := 8) (by kernel_rfl) rfl (fun K hK => ?_)
          go_simp
          go_wp2_with fail
          refine (HHO.out _ HI4d.out.tab).mono ?_
          rintro e w5 ⟨rfl, k5⟩
          have HI5 := Lib.hid (HI4d.out.on k5)
          have HS5 := Lib.hid (HI5.out.reg (q := w1.heap.size) (a := (F : Int)) (b := (S : Int)) (by simp))
          clear k5
          go_wp2
          refine hK.out _ _ (HS5.out) ?_
          clear hK K
          try simp only [Act.put, List.getElem_toArray, List.getElem_cons_succ, List.getElem_cons_zero, List.setIfInBounds_toArray, List.set_cons_zero, List.set_cons_succ]
          refine AnyBut.takeS (i := 9) (v := ?v51) rfl (by kernel_rfl) (Nat.le_of_eq (by kernel_rfl)) (by kernel_rfl) (by kernel_rfl) (fun _ _ _ h => h) (HS5.out) (Or.inl ⟨by kernel_rfl, ?hy51⟩) ?r51
          case hy51 =>
            intro w hSw
            try dsimp only at hSw
            go_simp
            try with_reducible rfl
          try simp only [Act.put, List.getElem_toArray, List.getElem_cons_succ, List.getElem_cons_zero, List.setIfInBounds_toArray, List.set_cons_zero, List.set_cons_succ]
          refine AnyBut.takeS (i := 10) (v := undef) rfl (by kernel_rfl) (Nat.le_of_eq (by kernel_rfl)) (by kernel_rfl) (by kernel_rfl) (fun _ _ _ h => h) (HS5.out) (Or.inr ⟨by kernel_rfl, rfl⟩) ?r52
          try simp only [Act.put, List.getElem_toArray, List.getElem_cons_succ, List.getElem_cons_zero, List.setIfInBounds_toArray, List.set_cons_zero, List.set_cons_succ]
          refine AnyBut.takeS (i := 11) (v := undef) rfl (by kernel_rfl) (Nat.le_of_eq (by kernel_rfl)) (by kernel_rfl) (by kernel_rfl) (fun _ _ _ h => h) (HS5.out) (Or.inr ⟨by kernel_rfl, rfl⟩) ?r53
          try simp only [Act.put, List.getElem_toArray, List.getElem_cons_succ, List.getElem_cons_zero, List.setIfInBounds_toArray, List.set_cons_zero, List.set_cons_succ]
          refine AnyBut.takeS (i := 12) (v := undef) rfl (by kernel_rfl) (Nat.le_of_eq (by kernel_rfl)) (by kernel_rfl) (by kernel_rfl) (fun _ _ _ h => h) (HS5.out) (Or.inr ⟨by kernel_rfl, rfl⟩) ?r54
          try simp only [Act.put, List.getElem_toArray, List.getElem_cons_succ, List.getElem_cons_zero, List.setIfInBounds_toArray, List.set_cons_zero, List.set_cons_succ]
          refine AnyBut.takeS (i := 13) (v := undef) rfl (by kernel_rfl) (Nat.le_of_eq (by kernel_rfl)) (by kernel_rfl) (by kernel_rfl) (fun _ _ _ h => h) (HS5.out) (Or.inr ⟨by kernel_rfl, rfl⟩) ?r55
          try simp only [Act.put, List.getElem_toArray, List.getElem_cons_succ, List.getElem_cons_zero, List.setIfInBounds_toArray, List.set_cons_zero, List.set_cons_succ]
          refine AnyBut.takeS (i := 14) (v := ?v56) rfl (by kernel_rfl) (Nat.le_of_eq (by kernel_rfl)) (by kernel_rfl) (by kernel_rfl) (fun _ _ _ h => h) (HS5.out) (Or.inl ⟨by kernel_rfl, ?hy56⟩) ?r56
          case hy56 =>
            intro w hSw
            try dsimp only at hSw
            go_simp
            try with_reducible rfl
          try simp only [Act.put, List.getElem_toArray, List.getElem_cons_succ, List.getElem_cons_zero, List.setIfInBounds_toArray, List.set_cons_zero, List.set_cons_succ]
          refine AnyBut.takeS (i := 15) (v := ?v57) rfl (by kernel_rfl) (Nat.le_of_eq (by kernel_rfl)) (by kernel_rfl) (by kernel_rfl) (fun _ _ _ h => h) (HS5.out) (Or.inl ⟨by kernel_rfl, ?hy57⟩) ?r57
          case hy57 =>
            intro w hSw
            try dsimp only at hSw
            go_simp
            try with_reducible rfl
          try simp only [Act.put, List.getElem_toArray, List.getElem_cons_succ, List.getElem_cons_zero, List.setIfInBounds_toArray, List.set_cons_zero, List.set_cons_succ]
          refine AnyBut.done (by kernel_rfl) ?_
          go_wp2
          go_wp2
          refine AnyBut.start (S := fun w' => w'.cell? ⟨w1.heap.size, 0, none⟩ = some (.int .i64 (F : Int)) ∧ w'.cell? ⟨w1.heap.size, 1, none⟩ = some (.int .i64 (S : Int))) (k := 6) (by kernel_rfl) ?_
          have hi5 := HI5.out.on (Kept.refl _ _).drew
          obtain ⟨wd, hwd⟩ : ∃ w', w' = w5.drew := ⟨_, rfl⟩
          rw [← hwd] at hi5 ⊢
          have HI5r := Lib.hid hi5
          clear hi5 hwd
          have HSE := Lib.hid ((HI5r.out.bx (w1.heap.size, (F : Int), (S : Int)) (by simp)).1.c)
          have HSF := Lib.hid (HI5r.out.fin2 (q := w.heap.size) (a := 0) (b := 0) (q' := w1.heap.size) (a' := (F : Int)) (b' := (S : Int)) (by simp) (by simp) HNE.out (F : Int) (S : Int))
          refine AnyBut.takeS (i := 0) (v := ?v58) rfl (by kernel_rfl) (Nat.le_of_eq (by kernel_rfl)) (by kernel_rfl) (by kernel_rfl) (fun _ _ _ h => h) (HSE.out) (Or.inl ⟨by kernel_rfl, ?hy58⟩) ?r58
          case hy58 =>
            intro w hSw
            try dsimp only at hSw
            go_simp
            try with_reducible rfl
          try simp only [Act.put, List.getElem_toArray, List.getElem_cons_zero, List.setIfInBounds_toArray, List.set_cons_zero, List.set_cons_succ]
          refine AnyBut.takeS (i := 1) (v := ?v59) rfl (by kernel_rfl) (Nat.le_of_eq (by kernel_rfl)) (by kernel_rfl) (by kernel_rfl) (fun _ _ _ h => h) (HSE.out) (Or.inl ⟨by kernel_rfl, ?hy59⟩) ?r59
          case hy59 =>
            intro w hSw
            try dsimp only at hSw
            go_simp
            try with_reducible rfl
          try simp only [Act.put, List.getElem_toArray, List.getElem_cons_succ, List.getElem_cons_zero, List.setIfInBounds_toArray, List.set_cons_zero, List.set_cons_succ]
          refine AnyBut.takeS (i := 2) (v := ?v60) rfl (by kernel_rfl) (Nat.le_of_eq (by kernel_rfl)) (by kernel_rfl) (by kernel_rfl) (fun _ _ _ h => h) (HSE.out) (Or.inl ⟨by kernel_rfl, ?hy60⟩) ?r60
          case hy60 =>
            intro w hSw
            try dsimp only at hSw
            go_simp
            try with_reducible rfl
          try simp only [Act.put, List.getElem_toArray, List.getElem_cons_succ, List.getElem_cons_zero, List.setIfInBounds_toArray, List.set_cons_zero, List.set_cons_succ]
          refine AnyBut.takeS (i := 3) (v := ?v61) rfl (by kernel_rfl) (Nat.le_of_eq (by kernel_rfl)) (by kernel_rfl) (by kernel_rfl) (fun _ _ _ h => h) (HSE.out) (Or.inl ⟨by kernel_rfl, ?hy61⟩) ?r61
          case hy61 =>
            intro w hSw
            try dsimp only at hSw
            go_simp
            try with_reducible rfl
          try simp only [Act.put, List.getElem_toArray, List.getElem_cons_succ, List.getElem_cons_zero, List.setIfInBounds_toArray, List.set_cons_zero, List.set_cons_succ]
          refine AnyBut.one (i := 4) (by kernel_rfl) rfl (fun K hK => ?_)
          obtain ⟨z0, z1⟩ := ((HI5r.out).bx (w.heap.size, 0, 0) (by simp)).1.c
          have fr0 := ((HI5r.out).bx (w.heap.size, 0, 0) (by simp)).1.f 0
          have fr1 := ((HI5r.out).bx (w.heap.size, 0, 0) (by simp)).1.f 1
          go_simp
          go_wp2
          refine hK.out _ _ (HSF.out) ?_
          clear hK K
          try simp only [Act.put, List.getElem_toArray, List.getElem_cons_succ, List.getElem_cons_zero, List.setIfInBounds_toArray, List.set_cons_zero, List.set_cons_succ]
          refine AnyBut.takeS (i := 5) (v := ?v62) rfl (by kernel_rfl) (Nat.le_of_eq (by kernel_rfl)) (by kernel_rfl) (by kernel_rfl) (fun _ _ _ h => h) (HSF.out) (Or.inl ⟨by kernel_rfl, ?hy62⟩) ?r62
          case hy62 =>
            intro w hSw
            try dsimp only at hSw
            go_simp
            try with_reducible rfl
          try simp only [Act.put, List.getElem_toArray, List.getElem_cons_succ, List.getElem_cons_zero, List.setIfInBounds_toArray, List.set_cons_zero, List.set_cons_succ]
          refine AnyBut.done (by kernel_rfl) ?_
          go_wp2
          refine nx_end Tryd.results78 rfl rfl ((HI5r.out.bx (w.heap.size, 0, 0) (by simp)).1.set (F : Int) (S : Int)) rfl rfl ?_
          have hfin := HI5r.out.fin (q := w.heap.size) (a := 0) (b := 0) (by simp) (F : Int) (S : Int)
          exact ⟨X, F, S, rfl, fun h => absurd h (by decide), ⟨t4, hfin.1, fun h => absurd h (by decide)⟩, hfin.2⟩
        · rw [decide_eq_false h1] at HHO
          obtain ⟨F', hF'⟩ : ∃ F', F' = newF X := ⟨_, rfl⟩
          obtain ⟨S', hS'⟩ : ∃ S', S' = newS X := ⟨_, rfl⟩
          rw [← hF', ← hS'] at HAR
          rw [← hF', ← hS'] at h2
          clear h1 hF' hS'
          by_cases hq : F' = F
          · rw [hq] at HAR
            have q0 : ¬ (S' : Int) = (S : Int) := by omega
            clear h2 hq
            go_enter Tryd.func78, Tryd.ntmps78
            go_wp2_with fail
            refine (HT1.out).mono ?_
            rintro e w1 ⟨rfl, hq1, k1⟩
            have HI1 := Lib.hid (HI0.out.took k1 hq1)
            clear hq1 k1
            obtain ⟨w2, hw2⟩ : ∃ w', w' = w1.alloc (.cells #[.int .i64 (F : Int), .int .i64 (S : Int)] 91) := ⟨_, rfl⟩
            have HI2 := Lib.hid (HI1.out.new (F : Int) (S : Int))
            rw [← hw2] at HI2
            have HW2 := Lib.hid hw2
            clear hw2
            go_wp2_with fail
            rw [← HW2.out]
            obtain ⟨c0, c1⟩ := ((HI2.out).bx (w1.heap.size, (F : Int), (S : Int)) (by simp)).1.c
            go_wp2_with fail
            refine (HBH.out _).mono ?_
            rintro e w3 ⟨rfl, k3⟩
            have HI3 := Lib.hid (HI2.out.on k3)
            clear k3 c0 c1
            obtain ⟨c0, c1⟩ := ((HI3.out).bx (w1.heap.size, (F : Int), (S : Int)) (by simp)).1.c
            go_wp2_with fail
            refine (XT1.out _ HI3.out.rd).mono ?_
            rintro e w4 ⟨rfl, ⟨t4, hr4, ht4⟩, k4⟩
            have HI4 := Lib.hid (HI3.out.took k4 hr4)
            have HT4 := Lib.hid ht4
            clear k4 hr4 ht4 c0 c1
            have hlt1 := (HI1.out.bx (w.heap.size, 0, 0) (by simp)).1.lt
            have HNE := Lib.hid (show w1.heap.size ≠ w.heap.size by omega)
            clear hlt1
            go_wp2
            have HI4d := Lib.hid (HI4.out.on (Kept.refl _ _).drew)
            have HS4 := Lib.hid (HI4d.out.reg (q := w1.heap.size) (a := (F : Int)) (b := (S : Int)) (by simp))
            go_wp2
            refine AnyBut.start (S := fun w' => (w'.cell? ⟨w1.heap.size, 0, none⟩ = some (.int .i64 (F : Int)) ∧ w'.cell? ⟨w1.heap.size, 1, none⟩ = some (.int .i64 (S : Int))) ∧ (w'.cell? ⟨r, 2, none⟩ = some (.int .i64 (f : Int)) ∧ w'.cell? ⟨r, 3, none⟩ = some (.int .i64 (s : Int)))) (k := 16) (by kernel_rfl) ?_
            refine AnyBut.takeS (i := 0) (v := ?v63) rfl (by kernel_rfl) (Nat.le_of_eq (by kernel_rfl)) (by kernel_rfl) (by kernel_rfl) (fun _ _ _ h => h) (HS4.out) (Or.inl ⟨by kernel_rfl, ?hy63⟩) ?r63
            case hy63 =>
              intro w hSw
              try dsimp only at hSw
              go_simp
              try rw [if_neg q0]
              try with_reducible rfl
            try simp only [Act.put, List.getElem_toArray, List.getElem_cons_zero, List.setIfInBounds_toArray, List.set_cons_zero, List.set_cons_succ]
            refine AnyBut.takeS (i := 1) (v := ?v64) rfl (by kernel_rfl) (Nat.le_of_eq (by kernel_rfl)) (by kernel_rfl) (by kernel_rfl) (fun _ _ _ h => h) (HS4.out) (Or.inl ⟨by kernel_rfl, ?hy64⟩) ?r64
            case hy64 =>
              intro w hSw
              try dsimp only at hSw
              go_simp
              try rw [if_neg q0]
              try with_reducible rfl
            try simp only [Act.put, List.getElem_toArray, List.getElem_cons_succ, List.getElem_cons_zero, List.setIfInBounds_toArray, List.set_cons_zero, List.set_cons_succ]
            refine AnyBut.takeS (i := 2) (v := ?v65) rfl (by kernel_rfl) (Nat.le_of_eq (by kernel_rfl)) (by kernel_rfl) (by kernel_rfl) (fun _ _ _ h => h) (HS4.out) (Or.inl ⟨by kernel_rfl, ?hy65⟩) ?r65
            case hy65 =>
              intro w hSw
              try dsimp only at hSw
              go_simp
              try rw [if_neg q0]
              try with_reducible rfl
            try simp only [Act.put, List.getElem_toArray, List.getElem_cons_succ, List.getElem_cons_zero, List.setIfInBounds_toArray, List.set_cons_zero, List.set_cons_succ]
            refine AnyBut.takeS (i := 3) (v := ?v66) rfl (by kernel_rfl) (Nat.le_of_eq (by kernel_rfl)) (by kernel_rfl) (by kernel_rfl) (fun _ _ _ h => h) (HS4.out) (Or.inl ⟨by kernel_rfl, ?hy66⟩) ?r66
            case hy66 =>
              intro w hSw
              try dsimp only at hSw
              go_simp
              try rw [if_neg q0]
              try with_reducible rfl
            try simp only [Act.put, List.getElem_toArray, List.getElem_cons_succ, List.getElem_cons_zero, List.setIfInBounds_toArray, List.set_cons_zero, List.set_cons_succ]
            refine AnyBut.takeS (i := 4) (v := ?v67) rfl (by kernel_rfl) (Nat.le_of_eq (by kernel_rfl)) (by kernel_rfl) (by kernel_rfl) (fun _ _ _ h => h) (HS4.out) (Or.inl ⟨by kernel_rfl, ?hy67⟩) ?r67
            case hy67 =>
              intro w hSw
              try dsimp only at hSw
              go_simp
              try rw [if_neg q0]
              try with_reducible rfl
            try simp only [Act.put, List.getElem_toArray, List.getElem_cons_succ, List.getElem_cons_zero, List.setIfInBounds_toArray, List.set_cons_zero, List.set_cons_succ]
            refine AnyBut.takeS (i := 5) (v := ?v68) rfl (by kernel_rfl) (Nat.le_of_eq (by kernel_rfl)) (by kernel_rfl) (by kernel_rfl) (fun _ _ _ h => h) (HS4.out) (Or.inl ⟨by kernel_rfl, ?hy68⟩) ?r68
            case hy68 =>
              intro w hSw
              try dsimp only at hSw
              go_simp
              try rw [if_neg q0]
              try with_reducible rfl
            try simp only [Act.put, List.getElem_toArray, List.getElem_cons_succ, List.getElem_cons_zero, List.setIfInBounds_toArray, List.set_cons_zero, List.set_cons_succ]
            refine AnyBut.takeS (i := 6) (v := ?v69) rfl (by kernel_rfl) (Nat.le_of_eq (by kernel_rfl)) (by kernel_rfl) (by kernel_rfl) (fun _ _ _ h => h) (HS4.out) (Or.inl ⟨by kernel_rfl, ?hy69⟩) ?r69
            case hy69 =>
              intro w hSw
              try dsimp only at hSw
              go_simp
              try rw [if_neg q0]
              try with_reducible rfl
            try simp only [Act.put, List.getElem_toArray, List.getElem_cons_succ, List.getElem_cons_zero, List.setIfInBounds_toArray, List.set_cons_zero, List.set_cons_succ]
            refine AnyBut.takeS (i := 7) (v := ?v70) rfl (by kernel_rfl) (Nat.le_of_eq (by kernel_rfl)) (by kernel_rfl) (by kernel_rfl) (fun _ _ _ h => h) (HS4.out) (Or.inl ⟨by kernel_rfl, ?hy70⟩) ?r70
            case hy70 =>
              intro w hSw
              try dsimp only at hSw
              go_simp
              try rw [if_neg q0]
              try with_reducible rfl
            try simp only [Act.put, List.getElem_toArray, List.getElem_cons_succ, List.getElem_cons_zero, List.setIfInBounds_toArray, List.set_cons_zero, List.set_cons_succ]
            refine AnyBut.one (i := 8) (by kernel_rfl) rfl (fun K hK => ?_)
            go_simp
            go_wp2_with fail
            refine (HHO.out _ HI4d.out.tab).mono ?_
            rintro e w5 ⟨rfl, k5⟩
            have HI5 := Lib.hid (HI4d.out.on k5)
            have HS5 := Lib.hid (HI5.out.reg (q := w1.heap.size) (a := (F : Int)) (b := (S : Int)) (by simp))
            clear k5
            go_wp2
            refine hK.out _ _ (HS5.out) ?_
            clear hK K
            try simp only [Act.put, List.getElem_toArray, List.getElem_cons_succ, List.getElem_cons_zero, List.setIfInBounds_toArray, List.set_cons_zero, List.set_cons_succ]
            refine AnyBut.takeS (i := 9) (v := ?v71) rfl (by kernel_rfl) (Nat.le_of_eq (by kernel_rfl)) (by kernel_rfl) (by kernel_rfl) (fun _ _ _ h => h) (HS5.out) (Or.inl ⟨by kernel_rfl, ?hy71⟩) ?r71
            case hy71 =>
              intro w hSw
              try dsimp only at hSw
              go_simp
              try rw [if_neg q0]
              try with_reducible rfl
            try simp only [Act.put, List.getElem_toArray, List.getElem_cons_succ, List.getElem_cons_zero, List.setIfInBounds_toArray, List.set_cons_zero, List.set_cons_succ]
            refine AnyBut.takeS (i := 10) (v := ?v72) rfl (by kernel_rfl) (Nat.le_of_eq (by kernel_rfl)) (by kernel_rfl) (by kernel_rfl) (fun _ _ _ h => h) (HS5.out) (Or.inl ⟨by kernel_rfl, ?hy72⟩) ?r72
            case hy72 =>
              intro w hSw
              try dsimp only at hSw
              go_simp
              try rw [if_neg q0]
              try with_reducible rfl
            try simp only [Act.put, List.getElem_toArray, List.getElem_cons_succ, List.getElem_cons_zero, List.setIfInBounds_toArray, List.set_cons_zero, List.set_cons_succ]
            refine AnyBut.takeS (i := 12) (v := ?v73) rfl (by kernel_rfl) (Nat.le_of_eq (by kernel_rfl)) (by kernel_rfl) (by kernel_rfl) (fun _ _ _ h => h) (HS5.out) (Or.inl ⟨by kernel_rfl, ?hy73⟩) ?r73
            case hy73 =>
              intro w hSw
              try dsimp only at hSw
              go_simp
              try rw [if_neg q0]
              try with_reducible rfl
            try simp only [Act.put, List.getElem_toArray, List.getElem_cons_succ, List.getElem_cons_zero, List.setIfInBounds_toArray, List.set_cons_zero, List.set_cons_succ]
            refine AnyBut.one (i := 11) (by kernel_rfl) rfl (fun K hK => ?_)
            go_simp
            go_wp2_with fail
            refine (HAR.out _ HI5.out.tab).mono ?_
            rintro e w6 ⟨rfl, k6⟩
            have HI6 := Lib.hid (HI5.out.on k6)
            have HS6 := Lib.hid (HI6.out.reg (q := w1.heap.size) (a := (F : Int)) (b := (S : Int)) (by simp))
            clear k6
            go_wp2
            refine hK.out _ _ (HS6.out) ?_
            clear hK K
            try simp only [Act.put, List.getElem_toArray, List.getElem_cons_succ, List.getElem_cons_zero, List.setIfInBounds_toArray, List.set_cons_zero, List.set_cons_succ]
            refine AnyBut.takeS (i := 13) (v := ?v74) rfl (by kernel_rfl) (Nat.le_of_eq (by kernel_rfl)) (by kernel_rfl) (by kernel_rfl) (fun _ _ _ h => h) (HS6.out) (Or.inl ⟨by kernel_rfl, ?hy74⟩) ?r74
            case hy74 =>
              intro w hSw
              try dsimp only at hSw
              go_simp
              try rw [if_neg q0]
              try with_reducible rfl
            try simp only [Act.put, List.getElem_toArray, List.getElem_cons_succ, List.getElem_cons_zero, List.setIfInBounds_toArray, List.set_cons_zero, List.set_cons_succ]
            refine AnyBut.takeS (i := 14) (v := ?v75) rfl (by kernel_rfl) (Nat.le_of_eq (by kernel_rfl)) (by kernel_rfl) (by kernel_rfl) (fun _ _ _ h => h) (HS6.out) (Or.inl ⟨by kernel_rfl, ?hy75⟩) ?r75
            case hy75 =>
              intro w hSw
              try dsimp only at hSw
              go_simp
              try rw [if_neg q0]
              try with_reducible rfl
            try simp only [Act.put, List.getElem_toArray, List.getElem_cons_succ, List.getElem_cons_zero, List.setIfInBounds_toArray, List.set_cons_zero, List.set_cons_succ]
            refine AnyBut.takeS (i := 15) (v := ?v76) rfl (by kernel_rfl) (Nat.le_of_eq (by kernel_rfl)) (by kernel_rfl) (by kernel_rfl) (fun _ _ _ h => h) (HS6.out) (Or.inl ⟨by kernel_rfl, ?hy76⟩) ?r76
            case hy76 =>
              intro w hSw
              try dsimp only at hSw
              go_simp
              try rw [if_neg q0]
              try with_reducible rfl
            try simp only [Act.put, List.getElem_toArray, List.getElem_cons_succ, List.getElem_cons_zero, List.setIfInBounds_toArray, List.set_cons_zero, List.set_cons_succ]
            refine AnyBut.done (by kernel_rfl) ?_
            go_wp2
            go_wp2
            refine AnyBut.start (S := fun w' => w'.cell? ⟨w1.heap.size, 0, none⟩ = some (.int .i64 (F : Int)) ∧ w'.cell? ⟨w1.heap.size, 1, none⟩ = some (.int .i64 (S : Int))) (k := 6) (by kernel_rfl) ?_
            have hi5 := HI6.out.on (Kept.refl _ _).drew
            obtain ⟨wd, hwd⟩ : ∃ w', w' = w6.drew := ⟨_, rfl⟩
            rw [← hwd] at hi5 ⊢
            have HI5r := Lib.hid hi5
            clear hi5 hwd
            have HSE := Lib.hid ((HI5r.out.bx (w1.heap.size, (F : Int), (S : Int)) (by simp)).1.c)
            have HSF := Lib.hid (HI5r.out.fin2 (q := w.heap.size) (a := 0) (b := 0) (q' := w1.heap.size) (a' := (F : Int)) (b' := (S : Int)) (by simp) (by simp) HNE.out (F : Int) (S : Int))
            refine AnyBut.takeS (i := 0) (v := ?v77) rfl (by kernel_rfl) (Nat.le_of_eq (by kernel_rfl)) (by kernel_rfl) (by kernel_rfl) (fun _ _ _ h => h) (HSE.out) (Or.inl ⟨by kernel_rfl, ?hy77⟩) ?r77
            case hy77 =>
              intro w hSw
              try dsimp only at hSw
              go_simp
              try with_reducible rfl
            try simp only [Act.put, List.getElem_toArray, List.getElem_cons_zero, List.setIfInBounds_toArray, List.set_cons_zero, List.set_cons_succ]
            refine AnyBut.takeS (i := 1) (v := ?v78) rfl (by kernel_rfl) (Nat.le_of_eq (by kernel_rfl)) (by kernel_rfl) (by kernel_rfl) (fun _ _ _ h => h) (HSE.out) (Or.inl ⟨by kernel_rfl, ?hy78⟩) ?r78
            case hy78 =>
              intro w hSw
              try dsimp only at hSw
              go_simp
              try with_reducible rfl
            try simp only [Act.put, List.getElem_toArray, List.getElem_cons_succ, List.getElem_cons_zero, List.setIfInBounds_toArray, List.set_cons_zero, List.set_cons_succ]
            refine AnyBut.takeS (i := 2) (v := ?v79) rfl (by kernel_rfl) (Nat.le_of_eq (by kernel_rfl)) (by kernel_rfl) (by kernel_rfl) (fun _ _ _ h => h) (HSE.out) (Or.inl ⟨by kernel_rfl, ?hy79⟩) ?r79
            case hy79 =>
              intro w hSw
              try dsimp only at hSw
              go_simp
              try with_reducible rfl
            try simp only [Act.put, List.getElem_toArray, List.getElem_cons_succ, List.getElem_cons_zero, List.setIfInBounds_toArray, List.set_cons_zero, List.set_cons_succ]
            refine AnyBut.takeS (i := 3) (v := ?v80) rfl (by kernel_rfl) (Nat.le_of_eq (by kernel_rfl)) (by kernel_rfl) (by kernel_rfl) (fun _ _ _ h => h) (HSE.out) (Or.inl ⟨by kernel_rfl, ?hy80⟩) ?r80
            case hy80 =>
              intro w hSw
              try dsimp only at hSw
              go_simp
              try with_reducible rfl
            try simp only [Act.put, List.getElem_toArray, List.getElem_cons_succ, List.getElem_cons_zero, List.setIfInBounds_toArray, List.set_cons_zero, List.set_cons_succ]
            refine AnyBut.one (i := 4) (by kernel_rfl) rfl (fun K hK => ?_)
            obtain ⟨z0, z1⟩ := ((HI5r.out).bx (w.heap.size, 0, 0) (by simp)).1.c
            have fr0 := ((HI5r.out).bx (w.heap.size, 0, 0) (by simp)).1.f 0
            have fr1 := ((HI5r.out).bx (w.heap.size, 0, 0) (by simp)).1.f 1
            go_simp
            go_wp2
            refine hK.out _ _ (HSF.out) ?_
            clear hK K
            try simp only [Act.put, List.getElem_toArray, List.getElem_cons_succ, List.getElem_cons_zero, List.setIfInBounds_toArray, List.set_cons_zero, List.set_cons_succ]
            refine AnyBut.takeS (i := 5) (v := ?v81) rfl (by kernel_rfl) (Nat.le_of_eq (by kernel_rfl)) (by kernel_rfl) (by kernel_rfl) (fun _ _ _ h => h) (HSF.out) (Or.inl ⟨by kernel_rfl, ?hy81⟩) ?r81
            case hy81 =>
              intro w hSw
              try dsimp only at hSw
              go_simp
              try with_reducible rfl
            try simp only [Act.put, List.getElem_toArray, List.getElem_cons_succ, List.getElem_cons_zero, List.setIfInBounds_toArray, List.set_cons_zero, List.set_cons_succ]
            refine AnyBut.done (by kernel_rfl) ?_
            go_wp2
            refine nx_end Tryd.results78 rfl rfl ((HI5r.out.bx (w.heap.size, 0, 0) (by simp)).1.set (F : Int) (S : Int)) rfl rfl ?_
            have hfin := HI5r.out.fin (q := w.heap.size) (a := 0) (b := 0) (by simp) (F : Int) (S : Int)
            exact ⟨X, F, S, rfl, fun h => absurd h (by decide), ⟨t4, hfin.1, fun h => absurd h (by decide)⟩, hfin.2⟩
          · have q0 : ¬ (F' : Int) = (F : Int) := by omega
            clear h2 hq
            go_enter Tryd.func78, Tryd.ntmps78
            go_wp2_with fail
            refine (HT1.out).mono ?_
            rintro e w1 ⟨rfl, hq1, k1⟩
            have HI1 := Lib.hid (HI0.out.took k1 hq1)
            clear hq1 k1
            obtain ⟨w2, hw2⟩ : ∃ w', w' = w1.alloc (.cells #[.int .i64 (F : Int), .int .i64 (S : Int)] 91) := ⟨_, rfl⟩
            have HI2 := Lib.hid (HI1.out.new (F : Int) (S : Int))
            rw [← hw2] at HI2
            have HW2 := Lib.hid hw2
            clear hw2
            go_wp2_with fail
            rw [← HW2.out]
            obtain ⟨c0, c1⟩ := ((HI2.out).bx (w1.heap.size, (F : Int), (S : Int)) (by simp)).1.c
            go_wp2_with fail
            refine (HBH.out _).mono ?_
            rintro e w3 ⟨rfl, k3⟩
            have HI3 := Lib.hid (HI2.out.on k3)
            clear k3 c0 c1
            obtain ⟨c0, c1⟩ := ((HI3.out).bx (w1.heap.size, (F : Int), (S : Int)) (by simp)).1.c
            go_wp2_with fail
            refine (XT1.out _ HI3.out.rd).mono ?_
            rintro e w4 ⟨rfl, ⟨t4, hr4, ht4⟩, k4⟩
            have HI4 := Lib.hid (HI3.out.took k4 hr4)
            have HT4 := Lib.hid ht4
            clear k4 hr4 ht4 c0 c1
            have hlt1 := (HI1.out.bx (w.heap.size, 0, 0) (by simp)).1.lt
            have HNE := Lib.hid (show w1.heap.size ≠ w.heap.size by omega)
            clear hlt1
            go_wp2
            have HI4d := Lib.hid (HI4.out.on (Kept.refl _ _).drew)
            have HS4 := Lib.hid (HI4d.out.reg (q := w1.heap.size) (a := (F : Int)) (b := (S : Int)) (by simp))
            go_wp2
            refine AnyBut.start (S := fun w' => (w'.cell? ⟨w1.heap.size, 0, none⟩ = some (.int .i64 (F : Int)) ∧ w'.cell? ⟨w1.heap.size, 1, none⟩ = some (.int .i64 (S : Int))) ∧ (w'.cell? ⟨r, 2, none⟩ = some (.int .i64 (f : Int)) ∧ w'.cell? ⟨r, 3, none⟩ = some (.int .i64 (s : Int)))) (k := 16) (by kernel_rfl) ?_
            refine AnyBut.takeS (i := 0) (v := ?v82) rfl (by kernel_rfl) (Nat.le_of_eq (by kernel_rfl)) (by kernel_rfl) (by kernel_rfl) (fun _ _ _ h => h) (HS4.out) (Or.inl ⟨by kernel_rfl, ?hy82⟩) ?r82
            case hy82 =>
              intro w hSw
              try dsimp only at hSw
              go_simp
              try rw [if_neg q0]
              try with_reducible rfl
            try simp only [Act.put, List.getElem_toArray, List.getElem_cons_zero, List.setIfInBounds_toArray, List.set_cons_zero, List.set_cons_succ]
            refine AnyBut.takeS (i := 1) (v := ?v83) rfl (by kernel_rfl) (Nat.le_of_eq (by kernel_rfl)) (by kernel_rfl) (by kernel_rfl) (fun _ _ _ h => h) (HS4.out) (Or.inl ⟨by kernel_rfl, ?hy83⟩) ?r83
            case hy83 =>
              intro w hSw
              try dsimp only at hSw
              go_simp
              try rw [if_neg q0]
              try with_reducible rfl
            try simp only [Act.put, List.getElem_toArray, List.getElem_cons_succ, List.getElem_cons_zero, List.setIfInBounds_toArray, List.set_cons_zero, List.set_cons_succ]
            refine AnyBut.takeS (i := 2) (v := ?v84) rfl (by kernel_rfl) (Nat.le_of_eq (by kernel_rfl)) (by kernel_rfl) (by kernel_rfl) (fun _ _ _ h => h) (HS4.out) (Or.inl ⟨by kernel_rfl, ?hy84⟩) ?r84
            case hy84 =>
              intro w hSw
              try dsimp only at hSw
              go_simp
              try rw [if_neg q0]
              try with_reducible rfl
            try simp only [Act.put, List.getElem_toArray, List.getElem_cons_succ, List.getElem_cons_zero, List.setIfInBounds_toArray, List.set_cons_zero, List.set_cons_succ]
            refine AnyBut.takeS (i := 3) (v := ?v85) rfl (by kernel_rfl) (Nat.le_of_eq (by kernel_rfl)) (by kernel_rfl) (by kernel_rfl) (fun _ _ _ h => h) (HS4.out) (Or.inl ⟨by kernel_rfl, ?hy85⟩) ?r85
            case hy85 =>
              intro w hSw
              try dsimp only at hSw
              go_simp
              try rw [if_neg q0]
              try with_reducible rfl
            try simp only [Act.put, List.getElem_toArray, List.getElem_cons_succ, List.getElem_cons_zero, List.setIfInBounds_toArray, List.set_cons_zero, List.set_cons_succ]
            refine AnyBut.takeS (i := 4) (v := ?v86) rfl (by kernel_rfl) (Nat.le_of_eq (by kernel_rfl)) (by kernel_rfl) (by kernel_rfl) (fun _ _ _ h => h) (HS4.out) (Or.inl ⟨by kernel_rfl, ?hy86⟩) ?r86
            case hy86 =>
              intro w hSw
              try dsimp only at hSw
              go_simp
              try rw [if_neg q0]
              try with_reducible rfl
            try simp only [Act.put, List.getElem_toArray, List.getElem_cons_succ, List.getElem_cons_zero, List.setIfInBounds_toArray, List.set_cons_zero, List.set_cons_succ]
            refine AnyBut.takeS (i := 5) (v := ?v87) rfl (by kernel_rfl) (Nat.le_of_eq (by kernel_rfl)) (by kernel_rfl) (by kernel_rfl) (fun _ _ _ h => h) (HS4.out) (Or.inl ⟨by kernel_rfl, ?hy87⟩) ?r87
            case hy87 =>
              intro w hSw
              try dsimp only at hSw
              go_simp
              try rw [if_neg q0]
              try with_reducible rfl
            try simp only [Act.put, List.getElem_toArray, List.getElem_cons_succ, List.getElem_cons_zero, List.setIfInBounds_toArray, List.set_cons_zero, List.set_cons_succ]
            refine AnyBut.takeS (i := 6) (v := ?v88) rfl (by kernel_rfl) (Nat.le_of_eq (by kernel_rfl)) (by kernel_rfl) (by kernel_rfl) (fun _ _ _ h => h) (HS4.out) (Or.inl ⟨by kernel_rfl, ?hy88⟩) ?r88
            case hy88 =>
              intro w hSw
              try dsimp only at hSw
              go_simp
              try rw [if_neg q0]
              try with_reducible rfl
            try simp only [Act.put, List.getElem_toArray, List.getElem_cons_succ, List.getElem_cons_zero, List.setIfInBounds_toArray, List.set_cons_zero, List.set_cons_succ]
            refine AnyBut.takeS (i := 7) (v := ?v89) rfl (by kernel_rfl) (Nat.le_of_eq (by kernel_rfl)) (by kernel_rfl) (by kernel_rfl) (fun _ _ _ h => h) (HS4.out) (Or.inl ⟨by kernel_rfl, ?hy89⟩) ?r89
            case hy89 =>
              intro w hSw
              try dsimp only at hSw
              go_simp
              try rw [if_neg q0]
              try with_reducible rfl
            try simp only [Act.put, List.getElem_toArray, List.getElem_cons_succ, List.getElem_cons_zero, List.setIfInBounds_toArray, List.set_cons_zero, List.set_cons_succ]
            refine AnyBut.one (i := 8) (by kernel_rfl) rfl (fun K hK => ?_)
            go_simp
            go_wp2_with fail
            refine (HHO.out _ HI4d.out.tab).mono ?_
            rintro e w5 ⟨rfl, k5⟩
            have HI5 := Lib.hid (HI4d.out.on k5)
            have HS5 := Lib.hid (HI5.out.reg (q := w1.heap.size) (a := (F : Int)) (b := (S : Int)) (by simp))
            clear k5
            go_wp2
            refine hK.out _ _ (HS5.out) ?_
            clear hK K
            try simp only [Act.put, List.getElem_toArray, List.getElem_cons_succ, List.getElem_cons_zero, List.setIfInBounds_toArray, List.set_cons_zero, List.set_cons_succ]
            refine AnyBut.takeS (i := 9) (v := ?v90) rfl (by kernel_rfl) (Nat.le_of_eq (by kernel_rfl)) (by kernel_rfl) (by kernel_rfl) (fun _ _ _ h => h) (HS5.out) (Or.inl ⟨by kernel_rfl, ?hy90⟩) ?r90
            case hy90 =>
              intro w hSw
              try dsimp only at hSw
              go_simp
              try rw [if_neg q0]
              try with_reducible rfl
            try simp only [Act.put, List.getElem_toArray, List.getElem_cons_succ, List.getElem_cons_zero, List.setIfInBounds_toArray, List.set_cons_zero, List.set_cons_succ]
            refine AnyBut.takeS (i := 10) (v := ?v91) rfl (by kernel_rfl) (Nat.le_of_eq (by kernel_rfl)) (by kernel_rfl) (by kernel_rfl) (fun _ _ _ h => h) (HS5.out) (Or.inl ⟨by kernel_rfl, ?hy91⟩) ?r91
            case hy91 =>
              intro w hSw
              try dsimp only at hSw
              go_simp
              try rw [if_neg q0]
              try with_reducible rfl
            try simp only [Act.put, List.getElem_toArray, List.getElem_cons_succ, List.getElem_cons_zero, List.setIfInBounds_toArray, List.set_cons_zero, List.set_cons_succ]
            refine AnyBut.takeS (i := 12) (v := ?v92) rfl (by kernel_rfl) (Nat.le_of_eq (by kernel_rfl)) (by kernel_rfl) (by kernel_rfl) (fun _ _ _ h => h) (HS5.out) (Or.inl ⟨by kernel_rfl, ?hy92⟩) ?r92
            case hy92 =>
              intro w hSw
              try dsimp only at hSw
              go_simp
              try rw [if_neg q0]
              try with_reducible rfl
            try simp only [Act.put, List.getElem_toArray, List.getElem_cons_succ, List.getElem_cons_zero, List.setIfInBounds_toArray, List.set_cons_zero, List.set_cons_succ]
            refine AnyBut.one (i := 11) (by kernel_rfl) rfl (fun K hK => ?_)
            go_simp
            go_wp2_with fail
            refine (HAR.out _ HI5.out.tab).mono ?_
            rintro e w6 ⟨rfl, k6⟩
            have HI6 := Lib.hid (HI5.out.on k6)
            have HS6 := Lib.hid (HI6.out.reg (q := w1.heap.size) (a := (F : Int)) (b := (S : Int)) (by simp))
            clear k6
            go_wp2
            refine hK.out _ _ (HS6.out) ?_
            clear hK K
            try simp only [Act.put, List.getElem_toArray, List.getElem_cons_succ, List.getElem_cons_zero, List.setIfInBounds_toArray, List.set_cons_zero, List.set_cons_succ]
            refine AnyBut.takeS (i := 13) (v := ?v93) rfl (by kernel_rfl) (Nat.le_of_eq (by kernel_rfl)) (by kernel_rfl) (by kernel_rfl) (fun _ _ _ h => h) (HS6.out) (Or.inl ⟨by kernel_rfl, ?hy93⟩) ?r93
            case hy93 =>
              intro w hSw
              try dsimp only at hSw
              go_simp
              try rw [if_neg q0]
              try with_reducible rfl
            try simp only [Act.put, List.getElem_toArray, List.getElem_cons_succ, List.getElem_cons_zero, List.setIfInBounds_toArray, List.set_cons_zero, List.set_cons_succ]
            refine AnyBut.takeS (i := 14) (v := ?v94) rfl (by kernel_rfl) (Nat.le_of_eq (by kernel_rfl)) (by kernel_rfl) (by kernel_rfl) (fun _ _ _ h => h) (HS6.out) (Or.inl ⟨by kernel_rfl, ?hy94⟩) ?r94
            case hy94 =>
              intro w hSw
              try dsimp only at hSw
              go_simp
              try rw [if_neg q0]
              try with_reducible rfl
            try simp only [Act.put, List.getElem_toArray, List.getElem_cons_succ, List.getElem_cons_zero, List.setIfInBounds_toArray, List.set_cons_zero, List.set_cons_succ]
            refine AnyBut.takeS (i := 15) (v := ?v95) rfl (by kernel_rfl) (Nat.le_of_eq (by kernel_rfl)) (by kernel_rfl) (by kernel_rfl) (fun _ _ _ h => h) (HS6.out) (Or.inl ⟨by kernel_rfl, ?hy95⟩) ?r95
            case hy95 =>
              intro w hSw
              try dsimp only at hSw
              go_simp
              try rw [if_neg q0]
              try with_reducible rfl
            try simp only [Act.put, List.getElem_toArray, List.getElem_cons_succ, List.getElem_cons_zero, List.setIfInBounds_toArray, List.set_cons_zero, List.set_cons_succ]
            refine AnyBut.done (by kernel_rfl) ?_
            go_wp2
            go_wp2
            refine AnyBut.start (S := fun w' => w'.cell? ⟨w1.heap.size, 0, none⟩ = some (.int .i64 (F : Int)) ∧ w'.cell? ⟨w1.heap.size, 1, none⟩ = some (.int .i64 (S : Int))) (k := 6) (by kernel_rfl) ?_
            have hi5 := HI6.out.on (Kept.refl _ _).drew
            obtain ⟨wd, hwd⟩ : ∃ w', w' = w6.drew := ⟨_, rfl⟩
            rw [← hwd] at hi5 ⊢
            have HI5r := Lib.hid hi5
            clear hi5 hwd
            have HSE := Lib.hid ((HI5r.out.bx (w1.heap.size, (F : Int), (S : Int)) (by simp)).1.c)
            have HSF := Lib.hid (HI5r.out.fin2 (q := w.heap.size) (a := 0) (b := 0) (q' := w1.heap.size) (a' := (F : Int)) (b' := (S : Int)) (by simp) (by simp) HNE.out (F : Int) (S : Int))
            refine AnyBut.takeS (i := 0) (v := ?v96) rfl (by kernel_rfl) (Nat.le_of_eq (by kernel_rfl)) (by kernel_rfl) (by kernel_rfl) (fun _ _ _ h => h) (HSE.out) (Or.inl ⟨by kernel_rfl, ?hy96⟩) ?r96
            case hy96 =>
              intro w hSw
              try dsimp only at hSw
              go_simp
              try with_reducible rfl
            try simp only [Act.put, List.getElem_toArray, List.getElem_cons_zero, List.setIfInBounds_toArray, List.set_cons_zero, List.set_cons_succ]
            refine AnyBut.takeS (i := 1) (v := ?v97) rfl (by kernel_rfl) (Nat.le_of_eq (by kernel_rfl)) (by kernel_rfl) (by kernel_rfl) (fun _ _ _ h => h) (HSE.out) (Or.inl ⟨by kernel_rfl, ?hy97⟩) ?r97
            case hy97 =>
              intro w hSw
              try dsimp only at hSw
              go_simp
              try with_reducible rfl
            try simp only [Act.put, List.getElem_toArray, List.getElem_cons_succ, List.getElem_cons_zero, List.setIfInBounds_toArray, List.set_cons_zero, List.set_cons_succ]
            refine AnyBut.takeS (i := 2) (v := ?v98) rfl (by kernel_rfl) (Nat.le_of_eq (by kernel_rfl)) (by kernel_rfl) (by kernel_rfl) (fun _ _ _ h => h) (HSE.out) (Or.inl ⟨by kernel_rfl, ?hy98⟩) ?r98
            case hy98 =>
              intro w hSw
              try dsimp only at hSw
              go_simp
              try with_reducible rfl
            try simp only [Act.put, List.getElem_toArray, List.getElem_cons_succ, List.getElem_cons_zero, List.setIfInBounds_toArray, List.set_cons_zero, List.set_cons_succ]
            refine AnyBut.takeS (i := 3) (v := ?v99) rfl (by kernel_rfl) (Nat.le_of_eq (by kernel_rfl)) (by kernel_rfl) (by kernel_rfl) (fun _ _ _ h => h) (HSE.out) (Or.inl ⟨by kernel_rfl, ?hy99⟩) ?r99
            case hy99 =>
              intro w hSw
              try dsimp only at hSw
              go_simp
              try with_reducible rfl
            try simp only [Act.put, List.getElem_toArray, List.getElem_cons_succ, List.getElem_cons_zero, List.setIfInBounds_toArray, List.set_cons_zero, List.set_cons_succ]
            refine AnyBut.one (i := 4) (by kernel_rfl) rfl (fun K hK => ?_)
            obtain ⟨z0, z1⟩ := ((HI5r.out).bx (w.heap.size, 0, 0) (by simp)).1.c
            have fr0 := ((HI5r.out).bx (w.heap.size, 0, 0) (by simp)).1.f 0
            have fr1 := ((HI5r.out).bx (w.heap.size, 0, 0) (by simp)).1.f 1
            go_simp
            go_wp2
            refine hK.out _ _ (HSF.out) ?_
            clear hK K
            try simp only [Act.put, List.getElem_toArray, List.getElem_cons_succ, List.getElem_cons_zero, List.setIfInBounds_toArray, List.set_cons_zero, List.set_cons_succ]
            refine AnyBut.takeS (i := 5) (v := ?v100) rfl (by kernel_rfl) (Nat.le_of_eq (by kernel_rfl)) (by kernel_rfl) (by kernel_rfl) (fun _ _ _ h => h) (HSF.out) (Or.inl ⟨by kernel_rfl, ?hy100⟩) ?r100
            case hy100 =>
              intro w hSw
              try dsimp only at hSw
              go_simp
              try with_reducible rfl
            try simp only [Act.put, List.getElem_toArray, List.getElem_cons_succ, List.getElem_cons_zero, List.setIfInBounds_toArray, List.set_cons_zero, List.set_cons_succ]
            refine AnyBut.done (by kernel_rfl) ?_
            go_wp2
            refine nx_end Tryd.results78 rfl rfl ((HI5r.out.bx (w.heap.size, 0, 0) (by simp)).1.set (F : Int) (S : Int)) rfl rfl ?_
            have hfin := HI5r.out.fin (q := w.heap.size) (a := 0) (b := 0) (by simp) (F : Int) (S : Int)
            exact ⟨X, F, S, rfl, fun h => absurd h (by decide), ⟨t4, hfin.1, fun h => absurd h (by decide)⟩, hfin.2⟩
        · rw [decide_eq_false h1] at HHO
          rw [h2, h3] at HAR
          clear h1 h2 h3
          go_enter Tryd.func78, Tryd.ntmps78
          go_wp2_with fail
          refine (HT1.out).mono ?_
          rintro e w1 ⟨rfl, hq1, k1⟩
          have HI1 := Lib.hid (HI0.out.took k1 hq1)
          clear hq1 k1
          obtain ⟨w2, hw2⟩ : ∃ w', w' = w1.alloc (.cells #[.int .i64 (F : Int), .int .i64 (S : Int)] 91) := ⟨_, rfl⟩
          have HI2 := Lib.hid (HI1.out.new (F : Int) (S : Int))
          rw [← hw2] at HI2
          have HW2 := Lib.hid hw2
          clear hw2
          go_wp2_with fail
          rw [← HW2.out]
          obtain ⟨c0, c1⟩ := ((HI2.out).bx (w1.heap.size, (F : Int), (S : Int)) (by simp)).1.c
          go_wp2_with fail
          refine (HBH.out _).mono ?_
          rintro e w3 ⟨rfl, k3⟩
          have HI3 := Lib.hid (HI2.out.on k3)
          clear k3 c0 c1
          obtain ⟨c0, c1⟩ := ((HI3.out).bx (w1.heap.size, (F : Int), (S : Int)) (by simp)).1.c
          go_wp2_with fail
          refine (XT1.out _ HI3.out.rd).mono ?_
          rintro e w4 ⟨rfl, ⟨t4, hr4, ht4⟩, k4⟩
          have HI4 := Lib.hid (HI3.out.took k4 hr4)
          have HT4 := Lib.hid ht4
          clear k4 hr4 ht4 c0 c1
          have hlt1 := (HI1.out.bx (w.heap.size, 0, 0) (by simp)).1.lt
          have HNE := Lib.hid (show w1.heap.size ≠ w.heap.size by omega)
          clear hlt1
          go_wp2
          have HI4d := Lib.hid (HI4.out.on (Kept.refl _ _).drew)
          have HS4 := Lib.hid (HI4d.out.reg (q := w1.heap.size) (a := (F : Int)) (b := (S : Int)) (by simp))
          go_wp2
          refine AnyBut.start (S := fun w' => (w'.cell? ⟨w1.heap.size, 0, none⟩ = some (.int .i64 (F : Int)) ∧ w'.cell? ⟨w1.heap.size, 1, none⟩ = some (.int .i64 (S : Int))) ∧ (w'.cell? ⟨r, 2, none⟩ = some (.int .i64 (f : Int)) ∧ w'.cell? ⟨r, 3, none⟩ = some (.int .i64 (s : Int)))) (k := 16) (by kernel_rfl) ?_
          refine AnyBut.takeS (i := 0) (v := ?v101) rfl (by kernel_rfl) (Nat.le_of_eq (by kernel_rfl)) (by kernel_rfl) (by kernel_rfl) (fun _ _ _ h => h) (HS4.out) (Or.inl ⟨by kernel_rfl, ?hy101⟩) ?r101
          case hy101 =>
            intro w hSw
            try dsimp only at hSw
            go_simp
            try with_reducible rfl
          try simp only [Act.put, List.getElem_toArray, List.getElem_cons_zero, List.setIfInBounds_toArray, List.set_cons_zero, List.set_cons_succ]
          refine AnyBut.takeS (i := 1) (v := ?v102) rfl (by kernel_rfl) (Nat.le_of_eq (by kernel_rfl)) (by kernel_rfl) (by kernel_rfl) (fun _ _ _ h => h) (HS4.out) (Or.inl ⟨by kernel_rfl, ?hy102⟩) ?r102
          case hy102 =>
            intro w hSw
            try dsimp only at hSw
            go_simp
            try with_reducible rfl
          try simp only [Act.put, List.getElem_toArray, List.getElem_cons_succ, List.getElem_cons_zero, List.setIfInBounds_toArray, List.set_cons_zero, List.set_cons_succ]
          refine AnyBut.takeS (i := 2) (v := ?v103) rfl (by kernel_rfl) (Nat.le_of_eq (by kernel_rfl)) (by kernel_rfl) (by kernel_rfl) (fun _ _ _ h => h) (HS4.out) (Or.inl ⟨by kernel_rfl, ?hy103⟩) ?r103
          case hy103 =>
            intro w hSw
            try dsimp only at hSw
            go_simp
            try with_reducible rfl
          try simp only [Act.put, List.getElem_toArray, List.getElem_cons_succ, List.getElem_cons_zero, List.setIfInBounds_toArray, List.set_cons_zero, List.set_cons_succ]
          refine AnyBut.takeS (i := 3) (v := ?v104) rfl (by kernel_rfl) (Nat.le_of_eq (by kernel_rfl)) (by kernel_rfl) (by kernel_rfl) (fun _ _ _ h => h) (HS4.out) (Or.inl ⟨by kernel_rfl, ?hy104⟩) ?r104
          case hy104 =>
            intro w hSw
            try dsimp only at hSw
            go_simp
            try with_reducible rfl
          try simp only [Act.put, List.getElem_toArray, List.getElem_cons_succ, List.getElem_cons_zero, List.setIfInBounds_toArray, List.set_cons_zero, List.set_cons_succ]
          refine AnyBut.takeS (i := 4) (v := ?v105) rfl (by kernel_rfl) (Nat.le_of_eq (by kernel_rfl)) (by kernel_rfl) (by kernel_rfl) (fun _ _ _ h => h) (HS4.out) (Or.inl ⟨by kernel_rfl, ?hy105⟩) ?r105
          case hy105 =>
            intro w hSw
            try dsimp only at hSw
            go_simp
            try with_reducible rfl
          try simp only [Act.put, List.getElem_toArray, List.getElem_cons_succ, List.getElem_cons_zero, List.setIfInBounds_toArray, List.set_cons_zero, List.set_cons_succ]
          refine AnyBut.takeS (i := 5) (v := ?v106) rfl (by kernel_rfl) (Nat.le_of_eq (by kernel_rfl)) (by kernel_rfl) (by kernel_rfl) (fun _ _ _ h => h) (HS4.out) (Or.inl ⟨by kernel_rfl, ?hy106⟩) ?r106
          case hy106 =>
            intro w hSw
            try dsimp only at hSw
            go_simp
            try with_reducible rfl
          try simp only [Act.put, List.getElem_toArray, List.getElem_cons_succ, List.getElem_cons_zero, List.setIfInBounds_toArray, List.set_cons_zero, List.set_cons_succ]
          refine AnyBut.takeS (i := 6) (v := ?v107) rfl (by kernel_rfl) (Nat.le_of_eq (by kernel_rfl)) (by kernel_rfl) (by kernel_rfl) (fun _ _ _ h => h) (HS4.out) (Or.inl ⟨by kernel_rfl, ?hy107⟩) ?r107
          case hy107 =>
            intro w hSw
            try dsimp only at hSw
            go_simp
            try with_reducible rfl
          try simp only [Act.put, List.getElem_toArray, List.getElem_cons_succ, List.getElem_cons_zero, List.setIfInBounds_toArray, List.set_cons_zero, List.set_cons_succ]
          refine AnyBut.takeS (i := 7) (v := ?v108) rfl (by kernel_rfl) (Nat.le_of_eq (by kernel_rfl)) (by kernel_rfl) (by kernel_rfl) (fun _ _ _ h => h) (HS4.out) (Or.inl ⟨by kernel_rfl, ?hy108⟩) ?r108
          case hy108 =>
            intro w hSw
            try dsimp only at hSw
            go_simp
            try with_reducible rfl
          try simp only [Act.put, List.getElem_toArray, List.getElem_cons_succ, List.getElem_cons_zero, List.setIfInBounds_toArray, List.set_cons_zero, List.set_cons_succ]
          refine AnyBut.one (i := 8) (by kernel_rfl) rfl (fun K hK => ?_)
          go_simp
          go_wp2_with fail
          refine (HHO.out _ HI4d.out.tab).mono ?_
          rintro e w5 ⟨rfl, k5⟩
          have HI5 := Lib.hid (HI4d.out.on k5)
          have HS5 := Lib.hid (HI5.out.reg (q := w1.heap.size) (a := (F : Int)) (b := (S : Int)) (by simp))
          clear k5
          go_wp2
          refine hK.out _ _ (HS5.out) ?_
          clear hK K
          try simp only [Act.put, List.getElem_toArray, List.getElem_cons_succ, List.getElem_cons_zero, List.setIfInBounds_toArray, List.set_cons_zero, List.set_cons_succ]
          refine AnyBut.takeS (i := 9) (v := ?v109) rfl (by kernel_rfl) (Nat.le_of_eq (by kernel_rfl)) (by kernel_rfl) (by kernel_rfl) (fun _ _ _ h => h) (HS5.out) (Or.inl ⟨by kernel_rfl, ?hy109⟩) ?r109
          case hy109 =>
            intro w hSw
            try dsimp only at hSw
            go_simp
            try with_reducible rfl
          try simp only [Act.put, List.getElem_toArray, List.getElem_cons_succ, List.getElem_cons_zero, List.setIfInBounds_toArray, List.set_cons_zero, List.set_cons_succ]
          refine AnyBut.takeS (i := 10) (v := ?v110) rfl (by kernel_rfl) (Nat.le_of_eq (by kernel_rfl)) (by kernel_rfl) (by kernel_rfl) (fun _ _ _ h => h) (HS5.out) (Or.inl ⟨by kernel_rfl, ?hy110⟩) ?r110
          case hy110 =>
            intro w hSw
            try dsimp only at hSw
            go_simp
            try with_reducible rfl
          try simp only [Act.put, List.getElem_toArray, List.getElem_cons_succ, List.getElem_cons_zero, List.setIfInBounds_toArray, List.set_cons_zero, List.set_cons_succ]
          refine AnyBut.takeS (i := 12) (v := ?v111) rfl (by kernel_rfl) (Nat.le_of_eq (by kernel_rfl)) (by kernel_rfl) (by kernel_rfl) (fun _ _ _ h => h) (HS5.out) (Or.inl ⟨by kernel_rfl, ?hy111⟩) ?r111
          case hy111 =>
            intro w hSw
            try dsimp only at hSw
            go_simp
            try with_reducible rfl
          try simp only [Act.put, List.getElem_toArray, List.getElem_cons_succ, List.getElem_cons_zero, List.setIfInBounds_toArray, List.set_cons_zero, List.set_cons_succ]
          refine AnyBut.one (i := 11) (by kernel_rfl) rfl (fun K hK => ?_)
          go_simp
          go_wp2_with fail
          refine (HAR.out _ HI5.out.tab).mono ?_
          rintro e w6 ⟨rfl, k6⟩
          have HI6 := Lib.hid (HI5.out.on k6)
          have HS6 := Lib.hid (HI6.out.reg (q := w1.heap.size) (a := (F : Int)) (b := (S : Int)) (by simp))
          clear k6
          go_wp2
          refine hK.out _ _ (HS6.out) ?_
          clear hK K
          try simp only [Act.put, List.getElem_toArray, List.getElem_cons_succ, List.getElem_cons_zero, List.setIfInBounds_toArray, List.set_cons_zero, List.set_cons_succ]
          refine AnyBut.takeS (i := 13) (v := ?v112) rfl (by kernel_rfl) (Nat.le_of_eq (by kernel_rfl)) (by kernel_rfl) (by kernel_rfl) (fun _ _ _ h => h) (HS6.out) (Or.inl ⟨by kernel_rfl, ?hy112⟩) ?r112
          case hy112 =>
            intro w hSw
            try dsimp only at hSw
            go_simp
            try with_reducible rfl
          try simp only [Act.put, List.getElem_toArray, List.getElem_cons_succ, List.getElem_cons_zero, List.setIfInBounds_toArray, List.set_cons_zero, List.set_cons_succ]
          refine AnyBut.takeS (i := 14) (v := ?v113) rfl (by kernel_rfl) (Nat.le_of_eq (by kernel_rfl)) (by kernel_rfl) (by kernel_rfl) (fun _ _ _ h => h) (HS6.out) (Or.inl ⟨by kernel_rfl, ?hy113⟩) ?r113
          case hy113 =>
            intro w hSw
            try dsimp only at hSw
            go_simp
            try with_reducible rfl
          try simp only [Act.put, List.getElem_toArray, List.getElem_cons_succ, List.getElem_cons_zero, List.setIfInBounds_toArray, List.set_cons_zero, List.set_cons_succ]
          refine AnyBut.takeS (i := 15) (v := ?v114) rfl (by kernel_rfl) (Nat.le_of_eq (by kernel_rfl)) (by kernel_rfl) (by kernel_rfl) (fun _ _ _ h => h) (HS6.out) (Or.inl ⟨by kernel_rfl, ?hy114⟩) ?r114
          case hy114 =>
            intro w hSw
            try dsimp only at hSw
            go_simp
            try with_reducible rfl
          try simp only [Act.put, List.getElem_toArray, List.getElem_cons_succ, List.getElem_cons_zero, List.setIfInBounds_toArray, List.set_cons_zero, List.set_cons_succ]
          refine AnyBut.done (by kernel_rfl) ?_
          go_wp2
          go_wp2
          refine AnyBut.start (S := fun w' => w'.cell? ⟨w1.heap.size, 0, none⟩ = some (.int .i64 (F : Int)) ∧ w'.cell? ⟨w1.heap.size, 1, none⟩ = some (.int .i64 (S : Int))) (k := 6) (by kernel_rfl) ?_
          have hi5 := HI6.out.on (Kept.refl _ _).drew
          obtain ⟨wd, hwd⟩ : ∃ w', w' = w6.drew := ⟨_, rfl⟩
          rw [← hwd] at hi5 ⊢
          have HI5r := Lib.hid hi5
          clear hi5 hwd
          have HSE := Lib.hid ((HI5r.out.bx (w1.heap.size, (F : Int), (S : Int)) (by simp)).1.c)
          have HSF := Lib.hid (HI5r.out.fin2 (q := w.heap.size) (a := 0) (b := 0) (q' := w1.heap.size) (a' := (F : Int)) (b' := (S : Int)) (by simp) (by simp) HNE.out (F : Int) (S : Int))
          refine AnyBut.takeS (i := 0) (v := ?v115) rfl (by kernel_rfl) (Nat.le_of_eq (by kernel_rfl)) (by kernel_rfl) (by kernel_rfl) (fun _ _ _ h => h) (HSE.out) (Or.inl ⟨by kernel_rfl, ?hy115⟩) ?r115
          case hy115 =>
            intro w hSw
            try dsimp only at hSw
            go_simp
            try with_reducible rfl
          try simp only [Act.put, List.getElem_toArray, List.getElem_cons_zero, List.setIfInBounds_toArray, List.set_cons_zero, List.set_cons_succ]
          refine AnyBut.takeS (i := 1) (v := ?v116) rfl (by kernel_rfl) (Nat.le_of_eq (by kernel_rfl)) (by kernel_rfl) (by kernel_rfl) (fun _ _ _ h => h) (HSE.out) (Or.inl ⟨by kernel_rfl, ?hy116⟩) ?r116
          case hy116 =>
            intro w hSw
            try dsimp only at hSw
            go_simp
            try with_reducible rfl
          try simp only [Act.put, List.getElem_toArray, List.getElem_cons_succ, List.getElem_cons_zero, List.setIfInBounds_toArray, List.set_cons_zero, List.set_cons_succ]
          refine AnyBut.takeS (i := 2) (v := ?v117) rfl (by kernel_rfl) (Nat.le_of_eq (by kernel_rfl)) (by kernel_rfl) (by kernel_rfl) (fun _ _ _ h => h) (HSE.out) (Or.inl ⟨by kernel_rfl, ?hy117⟩) ?r117
          case hy117 =>
            intro w hSw
            try dsimp only at hSw
            go_simp
            try with_reducible rfl
          try simp only [Act.put, List.getElem_toArray, List.getElem_cons_succ, List.getElem_cons_zero, List.setIfInBounds_toArray, List.set_cons_zero, List.set_cons_succ]
          refine AnyBut.takeS (i := 3) (v := ?v118) rfl (by kernel_rfl) (Nat.le_of_eq (by kernel_rfl)) (by kernel_rfl) (by kernel_rfl) (fun _ _ _ h => h) (HSE.out) (Or.inl ⟨by kernel_rfl, ?hy118⟩) ?r118
          case hy118 =>
            intro w hSw
            try dsimp only at hSw
            go_simp
            try with_reducible rfl
          try simp only [Act.put, List.getElem_toArray, List.getElem_cons_succ, List.getElem_cons_zero, List.setIfInBounds_toArray, List.set_cons_zero, List.set_cons_succ]
          refine AnyBut.one (i := 4) (by kernel_rfl) rfl (fun K hK => ?_)
          obtain ⟨z0, z1⟩ := ((HI5r.out).bx (w.heap.size, 0, 0) (by simp)).1.c
          have fr0 := ((HI5r.out).bx (w.heap.size, 0, 0) (by simp)).1.f 0
          have fr1 := ((HI5r.out).bx (w.heap.size, 0, 0) (by simp)).1.f 1
          go_simp
          go_wp2
          refine hK.out _ _ (HSF.out) ?_
          clear hK K
          try simp only [Act.put, List.getElem_toArray, List.getElem_cons_succ, List.getElem_cons_zero, List.setIfInBounds_toArray, List.set_cons_zero, List.set_cons_succ]
          refine AnyBut.takeS (i := 5) (v := ?v119) rfl (by kernel_rfl) (Nat.le_of_eq (by kernel_rfl)) (by kernel_rfl) (by kernel_rfl) (fun _ _ _ h => h) (HSF.out) (Or.inl ⟨by kernel_rfl, ?hy119⟩) ?r119
          case hy119 =>
            intro w hSw
            try dsimp only at hSw
            go_simp
            try with_reducible rfl
          try simp only [Act.put, List.getElem_toArray, List.getElem_cons_succ, List.getElem_cons_zero, List.setIfInBounds_toArray, List.set_cons_zero, List.set_cons_succ]
          refine AnyBut.done (by kernel_rfl) ?_
          go_wp2
          refine nx_end Tryd.results78 rfl rfl ((HI5r.out.bx (w.heap.size, 0, 0) (by simp)).1.set (F : Int) (S : Int)) rfl rfl ?_
          have hfin := HI5r.out.fin (q := w.heap.size) (a := 0) (b := 0) (by simp) (F : Int) (S : Int)
          exact ⟨V, F, S, rfl, fun _ => ⟨rfl, rfl, rfl⟩, ⟨t4, hfin.1, fun _ => by have := HT4.out (by trivial); omega⟩, hfin.2⟩

end Go.Proofs.YtaagjedkojlbpaaDoor
