/- package xor: next. -/
import Derived.Test.YtaagjedkojlbpaaDoorW7
namespace Go.Proofs.YtaagjedkojlbpaaDoor
open Go.RowKit
attribute [local go_sem ↓] Go.wp_at_zero Go.wp_at_succ

theorem InS.fin4 {w wi : World} {B p r q : Nat} {v : Value} {bs : List Bool} {t n last f s : Nat} {ws : List (Nat × Int × Int)} {a b : Int} (h : InS w wi B p r v bs t n last f s ws) (hm : (q, a, b) ∈ ws) (x y : Int) :
    (set2 wi q (.int .i64 x) (.int .i64 y)).cell? ⟨r, 2, none⟩ = some (.int .i64 (f : Int)) ∧ (set2 wi q (.int .i64 x) (.int .i64 y)).cell? ⟨r, 3, none⟩ = some (.int .i64 (s : Int)) := by
  refine (h.row.kept (set2_kept wi q (.int .i64 x) (.int .i64 y)) ?_).c.2.2
  rintro rfl
  have h1 := (h.bx _ hm).1
  have h2 := h.row
  unfold WinBox at h1
  unfold XRow at h2
  simp only at h1
  rw [h1] at h2
  injection h2 with h2
  injection h2 with _ e _
  exact absurd e (by decide)
/-- A row without floats. -/
def getZ (l : List Bool) : Nat × Nat × Nat := if l.length < 64 then (0, 0, 2) else (numB (l.take 64), 64, 0)
set_option maxHeartbeats 4000000 in
set_option maxRecDepth 100000 in
theorem xnext_zero (B p r : Nat) (v : Value) (bs : List Bool) (t last f s : Nat) (w : World) (HR : BrAt w B p v bs t) (HX : XRow w r 0 last f s) (hB : 2 < p) (hrp : r ≠ p) (HT : BruTab w) (hl : bs.length ≤ 100000000) :
    Calls Tryd.prog 66 #[.pointer (some ⟨r, 0, none⟩), .pointer (some ⟨p, 0, none⟩)] w (XNx w B p v bs t (getZ (bs.drop t)).1 (getZ (bs.drop t)).2.1 (getZ (bs.drop t)).2.2 0 0) := by
  have HI := InS.new (InS.mk (ws := []) HR HX (fun e he => by simp at he) HT (Kept.refl _ _) hrp hB HR.lt) 0 0
  have HI0 := Lib.hid HI
  obtain ⟨c0, c1, c2, c3⟩ := HI.row.c
  have htk := HR.taken
  have hdl : (bs.drop t).length = bs.length - t := List.length_drop
  by_cases hlt : (bs.drop t).length < 64
  · have e : getZ (bs.drop t) = (0, 0, 2) := by unfold getZ; rw [if_pos hlt]
    rw [e]
    have HT1 := Lib.hid (btake_no B p v bs t 64 _ HI.rd (by omega) (.inr (.inr (by omega))))
    unfold XNx winV
    clear HR HX HT HI hlt e htk hdl
    go_enter Tryd.func66, Tryd.ntmps66
    go_wp2_with fail
    refine (HT1.out).mono ?_
    rintro e w1 ⟨rfl, hq, k⟩
    have HI1 := Lib.hid (HI0.out.took k hq)
    clear hq k
    obtain ⟨z0, z1⟩ := (HI1.out.bx (w.heap.size, 0, 0) (by simp)).1.c
    have fr0 := (HI1.out.bx (w.heap.size, 0, 0) (by simp)).1.f 0
    have fr1 := (HI1.out.bx (w.heap.size, 0, 0) (by simp)).1.f 1
    go_wp2_with fail
    refine (short_any false _).mono ?_
    rintro e w2 ⟨rfl, rfl⟩
    go_wp2
    refine nx_end Tryd.results66 rfl rfl ((HI1.out.bx (w.heap.size, 0, 0) (by simp)).1.set 0 0) rfl rfl ?_
    have hfin := HI1.out.fin (q := w.heap.size) (a := 0) (b := 0) (by simp) 0 0
    exact ⟨0, 0, 0, rfl, fun h => absurd h (by decide), ⟨t, hfin.1, fun h => absurd h (by decide)⟩, hfin.2⟩
  · have e : getZ (bs.drop t) = (numB ((bs.drop t).take 64), 64, 0) := by unfold getZ; rw [if_neg hlt]
    rw [e]
    have HT1 := btake_yes B p v bs t 64 _ HI.rd (by omega) (by omega) (by omega)
    obtain ⟨V, hV⟩ : ∃ V, V = numB ((bs.drop t).take 64) := ⟨_, rfl⟩
    rw [← hV] at HT1 ⊢
    have HT1 := Lib.hid HT1
    unfold XNx winV
    clear HR HX HT HI hlt e htk hdl hV
    go_enter Tryd.func66, Tryd.ntmps66
    go_wp2_with fail
    refine (HT1.out).mono ?_
    rintro e w1 ⟨rfl, hq, k⟩
    have HI1 := Lib.hid (HI0.out.took k hq)
    clear hq k
    obtain ⟨z0, z1⟩ := (HI1.out.bx (w.heap.size, 0, 0) (by simp)).1.c
    have fr0 := (HI1.out.bx (w.heap.size, 0, 0) (by simp)).1.f 0
    have fr1 := (HI1.out.bx (w.heap.size, 0, 0) (by simp)).1.f 1
    go_wp2_with fail
    refine (short_any true _).mono ?_
    rintro e w2 ⟨rfl, rfl⟩
    go_wp2
    refine nx_end Tryd.results66 rfl rfl ((HI1.out.bx (w.heap.size, 0, 0) (by simp)).1.set 0 0) rfl rfl ?_
    have hfin := HI1.out.fin (q := w.heap.size) (a := 0) (b := 0) (by simp) 0 0
    exact ⟨V, 0, 0, rfl, fun _ => ⟨rfl, rfl, rfl⟩, ⟨(t + 64), hfin.1, fun _ => by rfl⟩, hfin.2⟩

theorem numB_one (b : Bool) : numB [b] = b.toNat := by cases b <;> rfl
theorem bit_at (bs : List Bool) (t m : Nat) (hm : t + m < bs.length) : numB ((bs.drop (t + m)).take 1) = ((bs.drop t).getD m false).toNat := by rw [take1 bs t m hm, numB_one]
theorem told_at (l : List Bool) (F S : Nat) (hF : F = numB ((l.drop 2).take 5)) (hS : S = numB ((l.drop 7).take 6) + 1) (h : 13 ≤ l.length) : numB ((l.drop 2).take 11) = F * 64 + (S - 1) := by
  have e : (l.drop 2).drop 5 = l.drop 7 := by rw [List.drop_drop]
  have e2 : (l.drop 2).take 11 = (l.drop 2).take 5 ++ (l.drop 7).take 6 := by
    have := List.take_add (l := l.drop 2) (i := 5) (j := 6)
    rw [e] at this
    exact this
  rw [e2, numB_append, ← hF, List.length_take, List.length_drop, Nat.min_eq_left (by omega)]
  omega
theorem XNx.err {w : World} {B p : Nat} {v : Value} {bs : List Bool} {t V N E f s V' N' f' s' : Nat} {e : Ending} {w' : World} (h : XNx w B p v bs t V N E f s e w') (hE : E ≠ 0) : XNx w B p v bs t V' N' E f' s' e w' := by
  obtain ⟨a, b, c, h1, _, ⟨t', h3, _⟩, h4⟩ := h
  exact ⟨a, b, c, h1, fun h => absurd h hE, ⟨t', h3, fun h => absurd h hE⟩, h4⟩
set_option maxHeartbeats 4000000 in
set_option maxRecDepth 100000 in
theorem xnext_new (B p r : Nat) (v : Value) (bs : List Bool) (t n last f s : Nat) (w : World) (HR : BrAt w B p v bs t) (HX : XRow w r n last f s) (hB : 2 < p) (hrp : r ≠ p) (HT : BruTab w) (hl : bs.length ≤ 100000000) (hn : 1 ≤ n)
    (h : 2 ≤ (bs.drop t).length) (hb : (bs.drop t).getD 0 false = true) (hb1 : (bs.drop t).getD 1 false = true) (V N E F S : Nat)
    (XIN : ∀ w', BrAt w' B p v bs (t + 1 + 1) → XRow w' r n last f s → BruTab w' → Calls Tryd.prog 78 #[.pointer (some ⟨r, 0, none⟩), .pointer (some ⟨p, 0, none⟩)] w' (XNx w' B p v bs (t + 1 + 1) V N E F S)) :
    Calls Tryd.prog 66 #[.pointer (some ⟨r, 0, none⟩), .pointer (some ⟨p, 0, none⟩)] w (XNx w B p v bs t V (2 + N) E F S) := by
  have HI := InS.new (InS.mk (ws := []) HR HX (fun e he => by simp at he) HT (Kept.refl _ _) hrp hB HR.lt) 0 0
  have HI0 := Lib.hid HI
  obtain ⟨c0, c1, c2, c3⟩ := HI.row.c
  have htk := HR.taken
  have hdl : (bs.drop t).length = bs.length - t := List.length_drop
  have n0 : ((n : Int) == 0) = false := by simp; omega
  have hT := btake_yes B p v bs t 1 _ HI.rd (by omega) (by omega) (by omega)
  have HT2 := Lib.hid fun w' (h : BrAt w' B p v bs (t + 1)) => btake_yes B p v bs (t + 1) 1 w' h (by omega) (by omega) (by omega)
  rw [show t = t + 0 by rfl, bit_at bs t 0 (by omega), hb] at hT
  rw [bit_at bs t 1 (by omega), hb1] at HT2
  have HT1 := Lib.hid hT
  have XIN := Lib.hid XIN
  unfold XNx at XIN ⊢
  unfold winV at XIN ⊢
  clear HR HX HT HI h htk hdl hn hT hb hb1
  go_enter Tryd.func66, Tryd.ntmps66
  go_wp2_with fail
  refine (HT1.out).mono ?_
  rintro e w1 ⟨rfl, hq, k⟩
  have HI1 := Lib.hid (HI0.out.took k hq)
  clear hq k
  go_wp2_with fail
  refine (HT2.out _ HI1.out.rd).mono ?_
  rintro e w2 ⟨rfl, hq, k⟩
  have HI2 := Lib.hid (HI1.out.took k hq)
  clear hq k
  go_wp2_with fail
  refine (XIN.out _ HI2.out.rd HI2.out.row HI2.out.tab).mono ?_
  rintro e w3 ⟨V', f', s', rfl, hE, ⟨t3, hq, ht3⟩, k⟩
  have HI3 := Lib.hid (HI2.out.took k hq)
  have HE := Lib.hid hE
  have HT3 := Lib.hid ht3
  clear hE ht3 k hq c0 c1 c2 c3
  obtain ⟨z0, z1⟩ := (HI3.out.bx (w.heap.size, 0, 0) (by simp)).1.c
  have fr0 := (HI3.out.bx (w.heap.size, 0, 0) (by simp)).1.f 0
  have fr1 := (HI3.out.bx (w.heap.size, 0, 0) (by simp)).1.f 1
  go_wp2
  refine nx_end Tryd.results66 rfl rfl ((HI3.out.bx (w.heap.size, 0, 0) (by simp)).1.set (f' : Int) (s' : Int)) rfl rfl ?_
  have hfin := HI3.out.fin (q := w.heap.size) (a := 0) (b := 0) (by simp) (f' : Int) (s' : Int)
  exact ⟨V', f', s', rfl, HE.out, ⟨t3, hfin.1, fun h => by have := HT3.out h; omega⟩, hfin.2⟩

set_option maxHeartbeats 4000000 in
set_option maxRecDepth 100000 in
theorem xnext_any (B p r : Nat) (v : Value) (bs : List Bool) (t n last f s : Nat) (w : World) (HR : BrAt w B p v bs t) (HX : XRow w r n last f s) (hB : 2 < p) (hrp : r ≠ p) (HT : BruTab w) (hl : bs.length ≤ 100000000) (hn : 1 ≤ n) (hok : okW f s) :
    Calls Tryd.prog 66 #[.pointer (some ⟨r, 0, none⟩), .pointer (some ⟨p, 0, none⟩)] w (XNx w B p v bs t (getX f s (bs.drop t)).1 (getX f s (bs.drop t)).2.1 (getX f s (bs.drop t)).2.2.1 (getX f s (bs.drop t)).2.2.2.1 (getX f s (bs.drop t)).2.2.2.2) := by
  have HI := InS.new (InS.mk (ws := []) HR HX (fun e he => by simp at he) HT (Kept.refl _ _) hrp hB HR.lt) 0 0
  have HI0 := Lib.hid HI
  obtain ⟨c0, c1, c2, c3⟩ := HI.row.c
  have htk := HR.taken
  have hdl : (bs.drop t).length = bs.length - t := List.length_drop
  have n0 : ((n : Int) == 0) = false := by simp; omega
  have hle := hok.le
  have b0 := bit_at bs t 0
  have b1 := bit_at bs t 1
  have hT0 := btake_yes B p v bs t 1 _ HI.rd (by omega) (by omega)
  have hT1 := fun w' (h : BrAt w' B p v bs (t + 1)) => btake_yes B p v bs (t + 1) 1 w' h (by omega) (by omega)
  rcases getX_cases f s (bs.drop t) hok with ⟨h, e⟩ | ⟨h, hb, e⟩ | ⟨h, hb, e⟩ | ⟨h, hb, hb1, hc⟩ | ⟨h, h2, hb, hb1, e⟩ | ⟨h, hb, hb1, F, S, hF, hS, hF2, hS1, hS2, hc⟩
  · rw [e]
    have HT1 := Lib.hid (btake_no B p v bs t 1 _ HI.rd (by omega) (.inr (.inr (by omega))))
    unfold XNx winV
    clear HR HX HT HI h e htk hdl hn hok b0 b1 hT0 hT1 hle
    go_enter Tryd.func66, Tryd.ntmps66
    go_wp2_with fail
    refine (HT1.out).mono ?_
    rintro e w1 ⟨rfl, hq, k⟩
    have HI1 := Lib.hid (HI0.out.took k hq)
    clear hq k
    go_wp2
    refine AnyBut.start (S := fun w' => w'.cell? ⟨r, 2, none⟩ = some (.int .i64 (f : Int)) ∧ w'.cell? ⟨r, 3, none⟩ = some (.int .i64 (s : Int))) (k := 9) (by kernel_rfl) ?_
    have hi5 := HI1.out.on (Kept.refl _ _).drew
    obtain ⟨wd, hwd⟩ : ∃ w', w' = w1.drew := ⟨_, rfl⟩
    rw [← hwd] at hi5 ⊢
    have HIr := Lib.hid hi5
    clear hi5 hwd
    have HSE := Lib.hid HIr.out.row.c.2.2
    have HSF := Lib.hid (HIr.out.fin4 (q := w.heap.size) (a := 0) (b := 0) (by simp) (f : Int) (s : Int))
    refine AnyBut.takeS (i := 0) (v := ?v1) rfl (by kernel_rfl) (Nat.le_of_eq (by kernel_rfl)) (by kernel_rfl) (by kernel_rfl) (fun _ _ _ h => h) (HSE.out) (Or.inl ⟨by kernel_rfl, ?hy1⟩) ?r1
    case hy1 =>
      intro w hSw
      try dsimp only at hSw
      go_simp
      try with_reducible rfl
    try simp only [Act.put, List.getElem_toArray, List.getElem_cons_zero, List.setIfInBounds_toArray, List.set_cons_zero, List.set_cons_succ]
    refine AnyBut.takeS (i := 1) (v := ?v2) rfl (by kernel_rfl) (Nat.le_of_eq (by kernel_rfl)) (by kernel_rfl) (by kernel_rfl) (fun _ _ _ h => h) (HSE.out) (Or.inl ⟨by kernel_rfl, ?hy2⟩) ?r2
    case hy2 =>
      intro w hSw
      try dsimp only at hSw
      go_simp
      try with_reducible rfl
    try simp only [Act.put, List.getElem_toArray, List.getElem_cons_succ, List.getElem_cons_zero, List.setIfInBounds_toArray, List.set_cons_zero, List.set_cons_succ]
    refine AnyBut.takeS (i := 2) (v := ?v3) rfl (by kernel_rfl) (Nat.le_of_eq (by kernel_rfl)) (by kernel_rfl) (by kernel_rfl) (fun _ _ _ h => h) (HSE.out) (Or.inl ⟨by kernel_rfl, ?hy3⟩) ?r3
    case hy3 =>
      intro w hSw
      try dsimp only at hSw
      go_simp
      try with_reducible rfl
    try simp only [Act.put, List.getElem_toArray, List.getElem_cons_succ, List.getElem_cons_zero, List.setIfInBounds_toArray, List.set_cons_zero, List.set_cons_succ]
    refine AnyBut.takeS (i := 3) (v := ?v4) rfl (by kernel_rfl) (Nat.le_of_eq (by kernel_rfl)) (by kernel_rfl) (by kernel_rfl) (fun _ _ _ h => h) (HSE.out) (Or.inl ⟨by kernel_rfl, ?hy4⟩) ?r4
    case hy4 =>
      intro w hSw
      try dsimp only at hSw
      go_simp
      try with_reducible rfl
    try simp only [Act.put, List.getElem_toArray, List.getElem_cons_succ, List.getElem_cons_zero, List.setIfInBounds_toArray, List.set_cons_zero, List.set_cons_succ]
    refine AnyBut.takeS (i := 4) (v := ?v5) rfl (by kernel_rfl) (Nat.le_of_eq (by kernel_rfl)) (by kernel_rfl) (by kernel_rfl) (fun _ _ _ h => h) (HSE.out) (Or.inl ⟨by kernel_rfl, ?hy5⟩) ?r5
    case hy5 =>
      intro w hSw
      try dsimp only at hSw
      go_simp
      try with_reducible rfl
    try simp only [Act.put, List.getElem_toArray, List.getElem_cons_succ, List.getElem_cons_zero, List.setIfInBounds_toArray, List.set_cons_zero, List.set_cons_succ]
    refine AnyBut.one (i := 5) (by kernel_rfl) rfl (fun K hK => ?_)
    go_simp
    go_wp2_with fail
    refine (short_any false _).mono ?_
    rintro e w7 ⟨rfl, rfl⟩
    go_wp2
    refine hK.out _ _ (HSE.out) ?_
    clear hK K
    try simp only [Act.put, List.getElem_toArray, List.getElem_cons_succ, List.getElem_cons_zero, List.setIfInBounds_toArray, List.set_cons_zero, List.set_cons_succ]
    refine AnyBut.takeS (i := 6) (v := ?v6) rfl (by kernel_rfl) (Nat.le_of_eq (by kernel_rfl)) (by kernel_rfl) (by kernel_rfl) (fun _ _ _ h => h) (HSE.out) (Or.inl ⟨by kernel_rfl, ?hy6⟩) ?r6
    case hy6 =>
      intro w hSw
      try dsimp only at hSw
      go_simp
      try with_reducible rfl
    try simp only [Act.put, List.getElem_toArray, List.getElem_cons_succ, List.getElem_cons_zero, List.setIfInBounds_toArray, List.set_cons_zero, List.set_cons_succ]
    refine AnyBut.one (i := 7) (by kernel_rfl) rfl (fun K hK => ?_)
    obtain ⟨z0, z1⟩ := (HIr.out.bx (w.heap.size, 0, 0) (by simp)).1.c
    have fr0 := (HIr.out.bx (w.heap.size, 0, 0) (by simp)).1.f 0
    have fr1 := (HIr.out.bx (w.heap.size, 0, 0) (by simp)).1.f 1
    go_simp
    go_wp2
    refine hK.out _ _ (HSF.out) ?_
    clear hK K
    try simp only [Act.put, List.getElem_toArray, List.getElem_cons_succ, List.getElem_cons_zero, List.setIfInBounds_toArray, List.set_cons_zero, List.set_cons_succ]
    refine AnyBut.takeS (i := 8) (v := ?v7) rfl (by kernel_rfl) (Nat.le_of_eq (by kernel_rfl)) (by kernel_rfl) (by kernel_rfl) (fun _ _ _ h => h) (HSF.out) (Or.inl ⟨by kernel_rfl, ?hy7⟩) ?r7
    case hy7 =>
      intro w hSw
      try dsimp only at hSw
      go_simp
      try with_reducible rfl
    try simp only [Act.put, List.getElem_toArray, List.getElem_cons_succ, List.getElem_cons_zero, List.setIfInBounds_toArray, List.set_cons_zero, List.set_cons_succ]
    refine AnyBut.done (by kernel_rfl) ?_
    go_wp2
    refine nx_end Tryd.results66 rfl rfl ((HIr.out.bx (w.heap.size, 0, 0) (by simp)).1.set (f : Int) (s : Int)) rfl rfl ?_
    have hfin := HIr.out.fin (q := w.heap.size) (a := 0) (b := 0) (by simp) (f : Int) (s : Int)
    exact ⟨0, f, s, rfl, fun h => absurd h (by decide), ⟨t, hfin.1, fun h => absurd h (by decide)⟩, hfin.2⟩
  · rw [e]
    have hT := hT0 (by omega)
    rw [show t = t + 0 by rfl, b0 (by omega), hb] at hT
    have HT1 := Lib.hid hT
    unfold XNx winV
    clear HR HX HT HI h e htk hdl hn hok b0 b1 hT0 hT1 hT hle hb
    go_enter Tryd.func66, Tryd.ntmps66
    go_wp2_with fail
    refine (HT1.out).mono ?_
    rintro e w1 ⟨rfl, hq, k⟩
    have HI1 := Lib.hid (HI0.out.took k hq)
    clear hq k
    go_wp2
    refine AnyBut.start (S := fun w' => w'.cell? ⟨r, 2, none⟩ = some (.int .i64 (f : Int)) ∧ w'.cell? ⟨r, 3, none⟩ = some (.int .i64 (s : Int))) (k := 9) (by kernel_rfl) ?_
    have hi5 := HI1.out.on (Kept.refl _ _).drew
    obtain ⟨wd, hwd⟩ : ∃ w', w' = w1.drew := ⟨_, rfl⟩
    rw [← hwd] at hi5 ⊢
    have HIr := Lib.hid hi5
    clear hi5 hwd
    have HSE := Lib.hid HIr.out.row.c.2.2
    have HSF := Lib.hid (HIr.out.fin4 (q := w.heap.size) (a := 0) (b := 0) (by simp) (f : Int) (s : Int))
    refine AnyBut.takeS (i := 0) (v := ?v8) rfl (by kernel_rfl) (Nat.le_of_eq (by kernel_rfl)) (by kernel_rfl) (by kernel_rfl) (fun _ _ _ h => h) (HSE.out) (Or.inl ⟨by kernel_rfl, ?hy8⟩) ?r8
    case hy8 =>
      intro w hSw
      try dsimp only at hSw
      go_simp
      try with_reducible rfl
    try simp only [Act.put, List.getElem_toArray, List.getElem_cons_zero, List.setIfInBounds_toArray, List.set_cons_zero, List.set_cons_succ]
    refine AnyBut.takeS (i := 1) (v := ?v9) rfl (by kernel_rfl) (Nat.le_of_eq (by kernel_rfl)) (by kernel_rfl) (by kernel_rfl) (fun _ _ _ h => h) (HSE.out) (Or.inl ⟨by kernel_rfl, ?hy9⟩) ?r9
    case hy9 =>
      intro w hSw
      try dsimp only at hSw
      go_simp
      try with_reducible rfl
    try simp only [Act.put, List.getElem_toArray, List.getElem_cons_succ, List.getElem_cons_zero, List.setIfInBounds_toArray, List.set_cons_zero, List.set_cons_succ]
    refine AnyBut.takeS (i := 2) (v := ?v10) rfl (by kernel_rfl) (Nat.le_of_eq (by kernel_rfl)) (by kernel_rfl) (by kernel_rfl) (fun _ _ _ h => h) (HSE.out) (Or.inl ⟨by kernel_rfl, ?hy10⟩) ?r10
    case hy10 =>
      intro w hSw
      try dsimp only at hSw
      go_simp
      try with_reducible rfl
    try simp only [Act.put, List.getElem_toArray, List.getElem_cons_succ, List.getElem_cons_zero, List.setIfInBounds_toArray, List.set_cons_zero, List.set_cons_succ]
    refine AnyBut.takeS (i := 3) (v := ?v11) rfl (by kernel_rfl) (Nat.le_of_eq (by kernel_rfl)) (by kernel_rfl) (by kernel_rfl) (fun _ _ _ h => h) (HSE.out) (Or.inl ⟨by kernel_rfl, ?hy11⟩) ?r11
    case hy11 =>
      intro w hSw
      try dsimp only at hSw
      go_simp
      try with_reducible rfl
    try simp only [Act.put, List.getElem_toArray, List.getElem_cons_succ, List.getElem_cons_zero, List.setIfInBounds_toArray, List.set_cons_zero, List.set_cons_succ]
    refine AnyBut.takeS (i := 4) (v := ?v12) rfl (by kernel_rfl) (Nat.le_of_eq (by kernel_rfl)) (by kernel_rfl) (by kernel_rfl) (fun _ _ _ h => h) (HSE.out) (Or.inl ⟨by kernel_rfl, ?hy12⟩) ?r12
    case hy12 =>
      intro w hSw
      try dsimp only at hSw
      go_simp
      try with_reducible rfl
    try simp only [Act.put, List.getElem_toArray, List.getElem_cons_succ, List.getElem_cons_zero, List.setIfInBounds_toArray, List.set_cons_zero, List.set_cons_succ]
    refine AnyBut.one (i := 5) (by kernel_rfl) rfl (fun K hK => ?_)
    go_simp
    go_wp2_with fail
    refine (short_any true _).mono ?_
    rintro e w7 ⟨rfl, rfl⟩
    go_wp2
    refine hK.out _ _ (HSE.out) ?_
    clear hK K
    try simp only [Act.put, List.getElem_toArray, List.getElem_cons_succ, List.getElem_cons_zero, List.setIfInBounds_toArray, List.set_cons_zero, List.set_cons_succ]
    refine AnyBut.takeS (i := 6) (v := ?v13) rfl (by kernel_rfl) (Nat.le_of_eq (by kernel_rfl)) (by kernel_rfl) (by kernel_rfl) (fun _ _ _ h => h) (HSE.out) (Or.inl ⟨by kernel_rfl, ?hy13⟩) ?r13
    case hy13 =>
      intro w hSw
      try dsimp only at hSw
      go_simp
      try with_reducible rfl
    try simp only [Act.put, List.getElem_toArray, List.getElem_cons_succ, List.getElem_cons_zero, List.setIfInBounds_toArray, List.set_cons_zero, List.set_cons_succ]
    refine AnyBut.one (i := 7) (by kernel_rfl) rfl (fun K hK => ?_)
    obtain ⟨z0, z1⟩ := (HIr.out.bx (w.heap.size, 0, 0) (by simp)).1.c
    have fr0 := (HIr.out.bx (w.heap.size, 0, 0) (by simp)).1.f 0
    have fr1 := (HIr.out.bx (w.heap.size, 0, 0) (by simp)).1.f 1
    go_simp
    go_wp2
    refine hK.out _ _ (HSF.out) ?_
    clear hK K
    try simp only [Act.put, List.getElem_toArray, List.getElem_cons_succ, List.getElem_cons_zero, List.setIfInBounds_toArray, List.set_cons_zero, List.set_cons_succ]
    refine AnyBut.takeS (i := 8) (v := ?v14) rfl (by kernel_rfl) (Nat.le_of_eq (by kernel_rfl)) (by kernel_rfl) (by kernel_rfl) (fun _ _ _ h => h) (HSF.out) (Or.inl ⟨by kernel_rfl, ?hy14⟩) ?r14
    case hy14 =>
      intro w hSw
      try dsimp only at hSw
      go_simp
      try with_reducible rfl
    try simp only [Act.put, List.getElem_toArray, List.getElem_cons_succ, List.getElem_cons_zero, List.setIfInBounds_toArray, List.set_cons_zero, List.set_cons_succ]
    refine AnyBut.done (by kernel_rfl) ?_
    go_wp2
    refine nx_end Tryd.results66 rfl rfl ((HIr.out.bx (w.heap.size, 0, 0) (by simp)).1.set (f : Int) (s : Int)) rfl rfl ?_
    have hfin := HIr.out.fin (q := w.heap.size) (a := 0) (b := 0) (by simp) (f : Int) (s : Int)
    exact ⟨0, f, s, rfl, fun _ => ⟨rfl, rfl, rfl⟩, ⟨(t + 1), hfin.1, fun _ => by rfl⟩, hfin.2⟩
  · rw [e]
    have hT := hT0 (by omega)
    rw [show t = t + 0 by rfl, b0 (by omega), hb] at hT
    have HT1 := Lib.hid hT
    have HT2 := Lib.hid fun w' (h : BrAt w' B p v bs (t + 1)) => btake_no B p v bs (t + 1) 1 w' h (by omega) (.inr (.inr (by omega)))
    unfold XNx winV
    clear HR HX HT HI h e htk hdl hn hok b0 b1 hT0 hT1 hT hle hb
    go_enter Tryd.func66, Tryd.ntmps66
    go_wp2_with fail
    refine (HT1.out).mono ?_
    rintro e w1 ⟨rfl, hq, k⟩
    have HI1 := Lib.hid (HI0.out.took k hq)
    clear hq k
    go_wp2_with fail
    refine (HT2.out _ HI1.out.rd).mono ?_
    rintro e w2 ⟨rfl, hq, k⟩
    have HI2 := Lib.hid (HI1.out.took k hq)
    clear hq k
    obtain ⟨z0, z1⟩ := (HI2.out.bx (w.heap.size, 0, 0) (by simp)).1.c
    have fr0 := (HI2.out.bx (w.heap.size, 0, 0) (by simp)).1.f 0
    have fr1 := (HI2.out.bx (w.heap.size, 0, 0) (by simp)).1.f 1
    go_wp2
    refine nx_end Tryd.results66 rfl rfl ((HI2.out.bx (w.heap.size, 0, 0) (by simp)).1.set 0 0) rfl rfl ?_
    have hfin := HI2.out.fin (q := w.heap.size) (a := 0) (b := 0) (by simp) 0 0
    exact ⟨0, 0, 0, rfl, fun h => absurd h (by decide), ⟨(t + 1), hfin.1, fun h => absurd h (by decide)⟩, hfin.2⟩
  · have hT := hT0 (by omega)
    rw [show t = t + 0 by rfl, b0 (by omega), hb] at hT
    have HT1 := Lib.hid hT
    have HT2 := Lib.hid fun w' h => hT1 w' h (by omega)
    rw [b1 (by omega), hb1] at HT2
    rcases hc with ⟨rfl, rfl, e⟩ | ⟨h1, h2, h3, e⟩ | ⟨h1, h2, h3, y, hy, hy2, hc⟩
    · rw [e]
      unfold XNx winV
      clear HR HX HT HI h e htk hdl hn hok b0 b1 hT0 hT1 hT hle hb hb1
      go_enter Tryd.func66, Tryd.ntmps66
      go_wp2_with fail
      refine (HT1.out).mono ?_
      rintro e w1 ⟨rfl, hq, k⟩
      have HI1 := Lib.hid (HI0.out.took k hq)
      clear hq k
      go_wp2_with fail
      refine (HT2.out _ HI1.out.rd).mono ?_
      rintro e w2 ⟨rfl, hq, k⟩
      have HI2 := Lib.hid (HI1.out.took k hq)
      clear hq k
      clear c0 c1 c2 c3
      obtain ⟨c0, c1, c2, c3⟩ := HI2.out.row.c
      obtain ⟨z0, z1⟩ := (HI2.out.bx (w.heap.size, 0, 0) (by simp)).1.c
      have fr0 := (HI2.out.bx (w.heap.size, 0, 0) (by simp)).1.f 0
      have fr1 := (HI2.out.bx (w.heap.size, 0, 0) (by simp)).1.f 1
      go_wp2
      refine nx_end Tryd.results66 rfl rfl ((HI2.out.bx (w.heap.size, 0, 0) (by simp)).1.set 0 0) rfl rfl ?_
      have hfin := HI2.out.fin (q := w.heap.size) (a := 0) (b := 0) (by simp) 0 0
      exact ⟨0, 0, 0, rfl, fun h => absurd h (by decide), ⟨(t + 1 + 1), hfin.1, fun h => absurd h (by decide)⟩, hfin.2⟩
    · rw [e]
      have XT1 := Lib.hid fun w' (h : BrAt w' B p v bs (t + 1 + 1)) => (xtake_any B p v bs (t + 1 + 1) f s w' h h1 h2 hl).1 (by rw [List.length_drop]; omega)
      have s0 : ¬ (s : Int) = 0 := by omega
      unfold XNx
      unfold winV at XT1 ⊢
      clear HR HX HT HI h e htk hdl hn hok b0 b1 hT0 hT1 hT hle hb hb1 h1 h2 h3
      go_enter Tryd.func66, Tryd.ntmps66
      go_wp2_with fail
      refine (HT1.out).mono ?_
      rintro e w1 ⟨rfl, hq, k⟩
      have HI1 := Lib.hid (HI0.out.took k hq)
      clear hq k
      go_wp2_with fail
      refine (HT2.out _ HI1.out.rd).mono ?_
      rintro e w2 ⟨rfl, hq, k⟩
      have HI2 := Lib.hid (HI1.out.took k hq)
      clear hq k
      clear c0 c1 c2 c3
      obtain ⟨c0, c1, c2, c3⟩ := HI2.out.row.c
      go_wp2_with fail
      refine (XT1.out _ HI2.out.rd).mono ?_
      rintro e w3 ⟨rfl, ⟨t3, hq, ht3⟩, k⟩
      have HI3 := Lib.hid (HI2.out.took k hq)
      clear hq k
      have HT3 := Lib.hid ht3
      clear ht3
      go_wp2
      refine AnyBut.start (S := fun w' => w'.cell? ⟨r, 2, none⟩ = some (.int .i64 (f : Int)) ∧ w'.cell? ⟨r, 3, none⟩ = some (.int .i64 (s : Int))) (k := 9) (by kernel_rfl) ?_
      have hi5 := HI3.out.on (Kept.refl _ _).drew
      obtain ⟨wd, hwd⟩ : ∃ w', w' = w3.drew := ⟨_, rfl⟩
      rw [← hwd] at hi5 ⊢
      have HIr := Lib.hid hi5
      clear hi5 hwd
      have HSE := Lib.hid HIr.out.row.c.2.2
      have HSF := Lib.hid (HIr.out.fin4 (q := w.heap.size) (a := 0) (b := 0) (by simp) (f : Int) (s : Int))
      refine AnyBut.takeS (i := 0) (v := ?v15) rfl (by kernel_rfl) (Nat.le_of_eq (by kernel_rfl)) (by kernel_rfl) (by kernel_rfl) (fun _ _ _ h => h) (HSE.out) (Or.inl ⟨by kernel_rfl, ?hy15⟩) ?r15
      case hy15 =>
        intro w hSw
        try dsimp only at hSw
        go_simp
        try with_reducible rfl
      try simp only [Act.put, List.getElem_toArray, List.getElem_cons_zero, List.setIfInBounds_toArray, List.set_cons_zero, List.set_cons_succ]
      refine AnyBut.takeS (i := 1) (v := ?v16) rfl (by kernel_rfl) (Nat.le_of_eq (by kernel_rfl)) (by kernel_rfl) (by kernel_rfl) (fun _ _ _ h => h) (HSE.out) (Or.inl ⟨by kernel_rfl, ?hy16⟩) ?r16
      case hy16 =>
        intro w hSw
        try dsimp only at hSw
        go_simp
        try with_reducible rfl
      try simp only [Act.put, List.getElem_toArray, List.getElem_cons_succ, List.getElem_cons_zero, List.setIfInBounds_toArray, List.set_cons_zero, List.set_cons_succ]
      refine AnyBut.takeS (i := 2) (v := ?v17) rfl (by kernel_rfl) (Nat.le_of_eq (by kernel_rfl)) (by kernel_rfl) (by kernel_rfl) (fun _ _ _ h => h) (HSE.out) (Or.inl ⟨by kernel_rfl, ?hy17⟩) ?r17
      case hy17 =>
        intro w hSw
        try dsimp only at hSw
        go_simp
        try with_reducible rfl
      try simp only [Act.put, List.getElem_toArray, List.getElem_cons_succ, List.getElem_cons_zero, List.setIfInBounds_toArray, List.set_cons_zero, List.set_cons_succ]
      refine AnyBut.takeS (i := 3) (v := ?v18) rfl (by kernel_rfl) (Nat.le_of_eq (by kernel_rfl)) (by kernel_rfl) (by kernel_rfl) (fun _ _ _ h => h) (HSE.out) (Or.inl ⟨by kernel_rfl, ?hy18⟩) ?r18
      case hy18 =>
        intro w hSw
        try dsimp only at hSw
        go_simp
        try with_reducible rfl
      try simp only [Act.put, List.getElem_toArray, List.getElem_cons_succ, List.getElem_cons_zero, List.setIfInBounds_toArray, List.set_cons_zero, List.set_cons_succ]
      refine AnyBut.takeS (i := 4) (v := ?v19) rfl (by kernel_rfl) (Nat.le_of_eq (by kernel_rfl)) (by kernel_rfl) (by kernel_rfl) (fun _ _ _ h => h) (HSE.out) (Or.inl ⟨by kernel_rfl, ?hy19⟩) ?r19
      case hy19 =>
        intro w hSw
        try dsimp only at hSw
        go_simp
        try with_reducible rfl
      try simp only [Act.put, List.getElem_toArray, List.getElem_cons_succ, List.getElem_cons_zero, List.setIfInBounds_toArray, List.set_cons_zero, List.set_cons_succ]
      refine AnyBut.takeS (i := 5) (v := ?v20) rfl (by kernel_rfl) (Nat.le_of_eq (by kernel_rfl)) (by kernel_rfl) (by kernel_rfl) (fun _ _ _ h => h) (HSE.out) (Or.inl ⟨by kernel_rfl, ?hy20⟩) ?r20
      case hy20 =>
        intro w hSw
        try dsimp only at hSw
        go_simp
        try with_reducible rfl
      try simp only [Act.put, List.getElem_toArray, List.getElem_cons_succ, List.getElem_cons_zero, List.setIfInBounds_toArray, List.set_cons_zero, List.set_cons_succ]
      refine AnyBut.takeS (i := 6) (v := ?v21) rfl (by kernel_rfl) (Nat.le_of_eq (by kernel_rfl)) (by kernel_rfl) (by kernel_rfl) (fun _ _ _ h => h) (HSE.out) (Or.inl ⟨by kernel_rfl, ?hy21⟩) ?r21
      case hy21 =>
        intro w hSw
        try dsimp only at hSw
        go_simp
        try with_reducible rfl
      try simp only [Act.put, List.getElem_toArray, List.getElem_cons_succ, List.getElem_cons_zero, List.setIfInBounds_toArray, List.set_cons_zero, List.set_cons_succ]
      refine AnyBut.one (i := 7) (by kernel_rfl) rfl (fun K hK => ?_)
      obtain ⟨z0, z1⟩ := (HIr.out.bx (w.heap.size, 0, 0) (by simp)).1.c
      have fr0 := (HIr.out.bx (w.heap.size, 0, 0) (by simp)).1.f 0
      have fr1 := (HIr.out.bx (w.heap.size, 0, 0) (by simp)).1.f 1
      go_simp
      go_wp2
      refine hK.out _ _ (HSF.out) ?_
      clear hK K
      try simp only [Act.put, List.getElem_toArray, List.getElem_cons_succ, List.getElem_cons_zero, List.setIfInBounds_toArray, List.set_cons_zero, List.set_cons_succ]
      refine AnyBut.takeS (i := 8) (v := ?v22) rfl (by kernel_rfl) (Nat.le_of_eq (by kernel_rfl)) (by kernel_rfl) (by kernel_rfl) (fun _ _ _ h => h) (HSF.out) (Or.inl ⟨by kernel_rfl, ?hy22⟩) ?r22
      case hy22 =>
        intro w hSw
        try dsimp only at hSw
        go_simp
        try with_reducible rfl
      try simp only [Act.put, List.getElem_toArray, List.getElem_cons_succ, List.getElem_cons_zero, List.setIfInBounds_toArray, List.set_cons_zero, List.set_cons_succ]
      refine AnyBut.done (by kernel_rfl) ?_
      go_wp2
      refine nx_end Tryd.results66 rfl rfl ((HIr.out.bx (w.heap.size, 0, 0) (by simp)).1.set (f : Int) (s : Int)) rfl rfl ?_
      have hfin := HIr.out.fin (q := w.heap.size) (a := 0) (b := 0) (by simp) (f : Int) (s : Int)
      exact ⟨0, f, s, rfl, fun h => absurd h (by decide), ⟨t3, hfin.1, fun h => absurd h (by decide)⟩, hfin.2⟩
    · have hyd : y = numB ((bs.drop (t + 1 + 1)).take s) := by rw [hy, List.drop_drop]
      have hle2 : s ≤ (bs.drop (t + 1 + 1)).length := by rw [List.length_drop]; omega
      have s0 : ¬ (s : Int) = 0 := by omega
      rcases hc with ⟨hy0, e⟩ | ⟨hy0, e⟩
      · rw [e]
        have XT1 := Lib.hid fun w' (h : BrAt w' B p v bs (t + 1 + 1)) => (xtake_any B p v bs (t + 1 + 1) f s w' h h1 h2 hl).2.1 y hle2 hyd hy0
        unfold XNx
        unfold winV at XT1 ⊢
        clear HR HX HT HI h e htk hdl hn hok b0 b1 hT0 hT1 hT hle hb hb1 h1 h2 h3 hle2 hyd hy hy2 hy0
        go_enter Tryd.func66, Tryd.ntmps66
        go_wp2_with fail
        refine (HT1.out).mono ?_
        rintro e w1 ⟨rfl, hq, k⟩
        have HI1 := Lib.hid (HI0.out.took k hq)
        clear hq k
        go_wp2_with fail
        refine (HT2.out _ HI1.out.rd).mono ?_
        rintro e w2 ⟨rfl, hq, k⟩
        have HI2 := Lib.hid (HI1.out.took k hq)
        clear hq k
        clear c0 c1 c2 c3
        obtain ⟨c0, c1, c2, c3⟩ := HI2.out.row.c
        go_wp2_with fail
        refine (XT1.out _ HI2.out.rd).mono ?_
        rintro e w3 ⟨rfl, ⟨t3, hq, ht3⟩, k⟩
        have HI3 := Lib.hid (HI2.out.took k hq)
        clear hq k
        have HT3 := Lib.hid ht3
        clear ht3
        go_wp2
        refine AnyBut.start (S := fun w' => w'.cell? ⟨r, 2, none⟩ = some (.int .i64 (f : Int)) ∧ w'.cell? ⟨r, 3, none⟩ = some (.int .i64 (s : Int))) (k := 9) (by kernel_rfl) ?_
        have hi5 := HI3.out.on (Kept.refl _ _).drew
        obtain ⟨wd, hwd⟩ : ∃ w', w' = w3.drew := ⟨_, rfl⟩
        rw [← hwd] at hi5 ⊢
        have HIr := Lib.hid hi5
        clear hi5 hwd
        have HSE := Lib.hid HIr.out.row.c.2.2
        have HSF := Lib.hid (HIr.out.fin4 (q := w.heap.size) (a := 0) (b := 0) (by simp) (f : Int) (s : Int))
        refine AnyBut.takeS (i := 0) (v := ?v23) rfl (by kernel_rfl) (Nat.le_of_eq (by kernel_rfl)) (by kernel_rfl) (by kernel_rfl) (fun _ _ _ h => h) (HSE.out) (Or.inl ⟨by kernel_rfl, ?hy23⟩) ?r23
        case hy23 =>
          intro w hSw
          try dsimp only at hSw
          go_simp
          try with_reducible rfl
        try simp only [Act.put, List.getElem_toArray, List.getElem_cons_zero, List.setIfInBounds_toArray, List.set_cons_zero, List.set_cons_succ]
        refine AnyBut.takeS (i := 1) (v := ?v24) rfl (by kernel_rfl) (Nat.le_of_eq (by kernel_rfl)) (by kernel_rfl) (by kernel_rfl) (fun _ _ _ h => h) (HSE.out) (Or.inl ⟨by kernel_rfl, ?hy24⟩) ?r24
        case hy24 =>
          intro w hSw
          try dsimp only at hSw
          go_simp
          try with_reducible rfl
        try simp only [Act.put, List.getElem_toArray, List.getElem_cons_succ, List.getElem_cons_zero, List.setIfInBounds_toArray, List.set_cons_zero, List.set_cons_succ]
        refine AnyBut.takeS (i := 2) (v := ?v25) rfl (by kernel_rfl) (Nat.le_of_eq (by kernel_rfl)) (by kernel_rfl) (by kernel_rfl) (fun _ _ _ h => h) (HSE.out) (Or.inl ⟨by kernel_rfl, ?hy25⟩) ?r25
        case hy25 =>
          intro w hSw
          try dsimp only at hSw
          go_simp
          try with_reducible rfl
        try simp only [Act.put, List.getElem_toArray, List.getElem_cons_succ, List.getElem_cons_zero, List.setIfInBounds_toArray, List.set_cons_zero, List.set_cons_succ]
        refine AnyBut.takeS (i := 3) (v := ?v26) rfl (by kernel_rfl) (Nat.le_of_eq (by kernel_rfl)) (by kernel_rfl) (by kernel_rfl) (fun _ _ _ h => h) (HSE.out) (Or.inl ⟨by kernel_rfl, ?hy26⟩) ?r26
        case hy26 =>
          intro w hSw
          try dsimp only at hSw
          go_simp
          try with_reducible rfl
        try simp only [Act.put, List.getElem_toArray, List.getElem_cons_succ, List.getElem_cons_zero, List.setIfInBounds_toArray, List.set_cons_zero, List.set_cons_succ]
        refine AnyBut.takeS (i := 4) (v := ?v27) rfl (by kernel_rfl) (Nat.le_of_eq (by kernel_rfl)) (by kernel_rfl) (by kernel_rfl) (fun _ _ _ h => h) (HSE.out) (Or.inl ⟨by kernel_rfl, ?hy27⟩) ?r27
        case hy27 =>
          intro w hSw
          try dsimp only at hSw
          go_simp
          try with_reducible rfl
        try simp only [Act.put, List.getElem_toArray, List.getElem_cons_succ, List.getElem_cons_zero, List.setIfInBounds_toArray, List.set_cons_zero, List.set_cons_succ]
        refine AnyBut.takeS (i := 5) (v := ?v28) rfl (by kernel_rfl) (Nat.le_of_eq (by kernel_rfl)) (by kernel_rfl) (by kernel_rfl) (fun _ _ _ h => h) (HSE.out) (Or.inl ⟨by kernel_rfl, ?hy28⟩) ?r28
        case hy28 =>
          intro w hSw
          try dsimp only at hSw
          go_simp
          try with_reducible rfl
        try simp only [Act.put, List.getElem_toArray, List.getElem_cons_succ, List.getElem_cons_zero, List.setIfInBounds_toArray, List.set_cons_zero, List.set_cons_succ]
        refine AnyBut.takeS (i := 6) (v := ?v29) rfl (by kernel_rfl) (Nat.le_of_eq (by kernel_rfl)) (by kernel_rfl) (by kernel_rfl) (fun _ _ _ h => h) (HSE.out) (Or.inl ⟨by kernel_rfl, ?hy29⟩) ?r29
        case hy29 =>
          intro w hSw
          try dsimp only at hSw
          go_simp
          try with_reducible rfl
        try simp only [Act.put, List.getElem_toArray, List.getElem_cons_succ, List.getElem_cons_zero, List.setIfInBounds_toArray, List.set_cons_zero, List.set_cons_succ]
        refine AnyBut.one (i := 7) (by kernel_rfl) rfl (fun K hK => ?_)
        obtain ⟨z0, z1⟩ := (HIr.out.bx (w.heap.size, 0, 0) (by simp)).1.c
        have fr0 := (HIr.out.bx (w.heap.size, 0, 0) (by simp)).1.f 0
        have fr1 := (HIr.out.bx (w.heap.size, 0, 0) (by simp)).1.f 1
        go_simp
        go_wp2
        refine hK.out _ _ (HSF.out) ?_
        clear hK K
        try simp only [Act.put, List.getElem_toArray, List.getElem_cons_succ, List.getElem_cons_zero, List.setIfInBounds_toArray, List.set_cons_zero, List.set_cons_succ]
        refine AnyBut.takeS (i := 8) (v := ?v30) rfl (by kernel_rfl) (Nat.le_of_eq (by kernel_rfl)) (by kernel_rfl) (by kernel_rfl) (fun _ _ _ h => h) (HSF.out) (Or.inl ⟨by kernel_rfl, ?hy30⟩) ?r30
        case hy30 =>
          intro w hSw
          try dsimp only at hSw
          go_simp
          try with_reducible rfl
        try simp only [Act.put, List.getElem_toArray, List.getElem_cons_succ, List.getElem_cons_zero, List.setIfInBounds_toArray, List.set_cons_zero, List.set_cons_succ]
        refine AnyBut.done (by kernel_rfl) ?_
        go_wp2
        refine nx_end Tryd.results66 rfl rfl ((HIr.out.bx (w.heap.size, 0, 0) (by simp)).1.set (f : Int) (s : Int)) rfl rfl ?_
        have hfin := HIr.out.fin (q := w.heap.size) (a := 0) (b := 0) (by simp) (f : Int) (s : Int)
        exact ⟨0, f, s, rfl, fun h => absurd h (by decide), ⟨t3, hfin.1, fun h => absurd h (by decide)⟩, hfin.2⟩
      · rw [e]
        have XT1 := Lib.hid fun w' (h : BrAt w' B p v bs (t + 1 + 1)) => (xtake_any B p v bs (t + 1 + 1) f s w' h h1 h2 hl).2.2 y hle2 hyd hy0
        unfold XNx
        unfold winV at XT1 ⊢
        obtain ⟨X, hX⟩ : ∃ X, X = outX f s y := ⟨_, rfl⟩
        rw [← hX] at XT1 ⊢
        clear HR HX HT HI h e htk hdl hn hok b0 b1 hT0 hT1 hT hle hb hb1 h1 h2 h3 hle2 hyd hy hy2 hy0 hX
        go_enter Tryd.func66, Tryd.ntmps66
        go_wp2_with fail
        refine (HT1.out).mono ?_
        rintro e w1 ⟨rfl, hq, k⟩
        have HI1 := Lib.hid (HI0.out.took k hq)
        clear hq k
        go_wp2_with fail
        refine (HT2.out _ HI1.out.rd).mono ?_
        rintro e w2 ⟨rfl, hq, k⟩
        have HI2 := Lib.hid (HI1.out.took k hq)
        clear hq k
        clear c0 c1 c2 c3
        obtain ⟨c0, c1, c2, c3⟩ := HI2.out.row.c
        go_wp2_with fail
        refine (XT1.out _ HI2.out.rd).mono ?_
        rintro e w3 ⟨rfl, ⟨t3, hq, ht3⟩, k⟩
        have HI3 := Lib.hid (HI2.out.took k hq)
        clear hq k
        have HT3 := Lib.hid ht3
        clear ht3
        go_wp2
        refine AnyBut.start (S := fun w' => w'.cell? ⟨r, 2, none⟩ = some (.int .i64 (f : Int)) ∧ w'.cell? ⟨r, 3, none⟩ = some (.int .i64 (s : Int))) (k := 9) (by kernel_rfl) ?_
        have hi5 := HI3.out.on (Kept.refl _ _).drew
        obtain ⟨wd, hwd⟩ : ∃ w', w' = w3.drew := ⟨_, rfl⟩
        rw [← hwd] at hi5 ⊢
        have HIr := Lib.hid hi5
        clear hi5 hwd
        have HSE := Lib.hid HIr.out.row.c.2.2
        have HSF := Lib.hid (HIr.out.fin4 (q := w.heap.size) (a := 0) (b := 0) (by simp) (f : Int) (s : Int))
        refine AnyBut.takeS (i := 0) (v := ?v31) rfl (by kernel_rfl) (Nat.le_of_eq (by kernel_rfl)) (by kernel_rfl) (by kernel_rfl) (fun _ _ _ h => h) (HSE.out) (Or.inl ⟨by kernel_rfl, ?hy31⟩) ?r31
        case hy31 =>
          intro w hSw
          try dsimp only at hSw
          go_simp
          try with_reducible rfl
        try simp only [Act.put, List.getElem_toArray, List.getElem_cons_zero, List.setIfInBounds_toArray, List.set_cons_zero, List.set_cons_succ]
        refine AnyBut.takeS (i := 1) (v := ?v32) rfl (by kernel_rfl) (Nat.le_of_eq (by kernel_rfl)) (by kernel_rfl) (by kernel_rfl) (fun _ _ _ h => h) (HSE.out) (Or.inl ⟨by kernel_rfl, ?hy32⟩) ?r32
        case hy32 =>
          intro w hSw
          try dsimp only at hSw
          go_simp
          try with_reducible rfl
        try simp only [Act.put, List.getElem_toArray, List.getElem_cons_succ, List.getElem_cons_zero, List.setIfInBounds_toArray, List.set_cons_zero, List.set_cons_succ]
        refine AnyBut.takeS (i := 2) (v := ?v33) rfl (by kernel_rfl) (Nat.le_of_eq (by kernel_rfl)) (by kernel_rfl) (by kernel_rfl) (fun _ _ _ h => h) (HSE.out) (Or.inl ⟨by kernel_rfl, ?hy33⟩) ?r33
        case hy33 =>
          intro w hSw
          try dsimp only at hSw
          go_simp
          try with_reducible rfl
        try simp only [Act.put, List.getElem_toArray, List.getElem_cons_succ, List.getElem_cons_zero, List.setIfInBounds_toArray, List.set_cons_zero, List.set_cons_succ]
        refine AnyBut.takeS (i := 3) (v := ?v34) rfl (by kernel_rfl) (Nat.le_of_eq (by kernel_rfl)) (by kernel_rfl) (by kernel_rfl) (fun _ _ _ h => h) (HSE.out) (Or.inl ⟨by kernel_rfl, ?hy34⟩) ?r34
        case hy34 =>
          intro w hSw
          try dsimp only at hSw
          go_simp
          try with_reducible rfl
        try simp only [Act.put, List.getElem_toArray, List.getElem_cons_succ, List.getElem_cons_zero, List.setIfInBounds_toArray, List.set_cons_zero, List.set_cons_succ]
        refine AnyBut.takeS (i := 4) (v := ?v35) rfl (by kernel_rfl) (Nat.le_of_eq (by kernel_rfl)) (by kernel_rfl) (by kernel_rfl) (fun _ _ _ h => h) (HSE.out) (Or.inl ⟨by kernel_rfl, ?hy35⟩) ?r35
        case hy35 =>
          intro w hSw
          try dsimp only at hSw
          go_simp
          try with_reducible rfl
        try simp only [Act.put, List.getElem_toArray, List.getElem_cons_succ, List.getElem_cons_zero, List.setIfInBounds_toArray, List.set_cons_zero, List.set_cons_succ]
        refine AnyBut.takeS (i := 5) (v := ?v36) rfl (by kernel_rfl) (Nat.le_of_eq (by kernel_rfl)) (by kernel_rfl) (by kernel_rfl) (fun _ _ _ h => h) (HSE.out) (Or.inl ⟨by kernel_rfl, ?hy36⟩) ?r36
        case hy36 =>
          intro w hSw
          try dsimp only at hSw
          go_simp
          try with_reducible rfl
        try simp only [Act.put, List.getElem_toArray, List.getElem_cons_succ, List.getElem_cons_zero, List.setIfInBounds_toArray, List.set_cons_zero, List.set_cons_succ]
        refine AnyBut.takeS (i := 6) (v := ?v37) rfl (by kernel_rfl) (Nat.le_of_eq (by kernel_rfl)) (by kernel_rfl) (by kernel_rfl) (fun _ _ _ h => h) (HSE.out) (Or.inl ⟨by kernel_rfl, ?hy37⟩) ?r37
        case hy37 =>
          intro w hSw
          try dsimp only at hSw
          go_simp
          try with_reducible rfl
        try simp only [Act.put, List.getElem_toArray, List.getElem_cons_succ, List.getElem_cons_zero, List.setIfInBounds_toArray, List.set_cons_zero, List.set_cons_succ]
        refine AnyBut.one (i := 7) (by kernel_rfl) rfl (fun K hK => ?_)
        obtain ⟨z0, z1⟩ := (HIr.out.bx (w.heap.size, 0, 0) (by simp)).1.c
        have fr0 := (HIr.out.bx (w.heap.size, 0, 0) (by simp)).1.f 0
        have fr1 := (HIr.out.bx (w.heap.size, 0, 0) (by simp)).1.f 1
        go_simp
        go_wp2
        refine hK.out _ _ (HSF.out) ?_
        clear hK K
        try simp only [Act.put, List.getElem_toArray, List.getElem_cons_succ, List.getElem_cons_zero, List.setIfInBounds_toArray, List.set_cons_zero, List.set_cons_succ]
        refine AnyBut.takeS (i := 8) (v := ?v38) rfl (by kernel_rfl) (Nat.le_of_eq (by kernel_rfl)) (by kernel_rfl) (by kernel_rfl) (fun _ _ _ h => h) (HSF.out) (Or.inl ⟨by kernel_rfl, ?hy38⟩) ?r38
        case hy38 =>
          intro w hSw
          try dsimp only at hSw
          go_simp
          try with_reducible rfl
        try simp only [Act.put, List.getElem_toArray, List.getElem_cons_succ, List.getElem_cons_zero, List.setIfInBounds_toArray, List.set_cons_zero, List.set_cons_succ]
        refine AnyBut.done (by kernel_rfl) ?_
        go_wp2
        refine nx_end Tryd.results66 rfl rfl ((HIr.out.bx (w.heap.size, 0, 0) (by simp)).1.set (f : Int) (s : Int)) rfl rfl ?_
        have hfin := HIr.out.fin (q := w.heap.size) (a := 0) (b := 0) (by simp) (f : Int) (s : Int)
        exact ⟨X, f, s, rfl, fun _ => ⟨rfl, rfl, rfl⟩, ⟨t3, hfin.1, fun _ => by have := HT3.out (by trivial); omega⟩, hfin.2⟩
  · have hsh : (bs.drop (t + 1 + 1)).length < 11 := by rw [List.length_drop]; omega
    rw [e]
    exact xnext_new B p r v bs t n last f s w HR HX hB hrp HT hl hn (by omega) hb hb1 0 0 2 f s (fun w' h1 h2 h3 => xinNew_short B p r v bs (t + 1 + 1) n last f s w' h1 h2 hB hrp h3 hl hsh 0 0 f s) |>.mono fun e w' h => h.err (by decide)
  · have hd11 : (bs.drop (t + 1 + 1 + 11)) = (bs.drop t).drop 13 := by rw [List.drop_drop]
    have hd2 : (bs.drop (t + 1 + 1)) = (bs.drop t).drop 2 := by rw [List.drop_drop]
    have hFS : numB ((bs.drop (t + 1 + 1)).take 11) = F * 64 + (S - 1) := by rw [hd2]; exact told_at _ F S hF hS (by omega)
    have h11 : 11 ≤ (bs.drop (t + 1 + 1)).length := by rw [List.length_drop]; clear hc; omega
    have l13 : ((bs.drop t).drop 13).length = (bs.drop t).length - 13 := List.length_drop
    rcases hc with ⟨h2, e⟩ | ⟨h2, h3, e⟩ | ⟨h2, h3, y, hy, hy2, ⟨h4, e⟩ | ⟨h4, h5, e⟩ | ⟨h4, h5, h6, h7, e⟩⟩
    · rw [e]
      exact xnext_new B p r v bs t n last f s w HR HX hB hrp HT hl hn (by omega) hb hb1 0 (11 + S) 3 F S (fun w' h1 h2' h3 => xinNew_any B p r v bs (t + 1 + 1) n last f s F S 0 3 w' h1 h2' hB hrp h3 hl hok h11 hF2 hS1 hS2 hFS (.inl ⟨h2, rfl⟩)) |>.mono fun e w' h => h.err (by decide)
    · rw [e]
      exact xnext_new B p r v bs t n last f s w HR HX hB hrp HT hl hn (by omega) hb hb1 0 (11 + S) 2 F S (fun w' h1' h2' h3' => xinNew_any B p r v bs (t + 1 + 1) n last f s F S 0 2 w' h1' h2' hB hrp h3' hl hok h11 hF2 hS1 hS2 hFS (.inr (.inl ⟨h2, by rw [hd11, l13]; exact h3, rfl⟩))) |>.mono fun e w' h => h.err (by decide)
    · rw [e]
      exact xnext_new B p r v bs t n last f s w HR HX hB hrp HT hl hn (by omega) hb hb1 0 (11 + S) 3 F S (fun w' h1' h2' h3' => xinNew_any B p r v bs (t + 1 + 1) n last f s F S 0 3 w' h1' h2' hB hrp h3' hl hok h11 hF2 hS1 hS2 hFS (.inr (.inr ⟨h2, by rw [hd11, l13]; exact h3, y, by rw [hd11]; exact hy, hy2, .inl ⟨h4, rfl⟩⟩))) |>.mono fun e w' h => h.err (by decide)
    · rw [e]
      have h5' : (0 < s ∧ inW f s (outX F S y)) ∨ ¬ (0 < s ∧ inW f s (outX F S y)) ∧ (newF (outX F S y) ≠ F ∨ newS (outX F S y) ≠ S) := by
        by_cases hh : 0 < s ∧ inW f s (outX F S y)
        · exact .inl hh
        · exact .inr ⟨hh, h5.resolve_left hh⟩
      refine xnext_new B p r v bs t n last f s w HR HX hB hrp HT hl hn (by omega) hb hb1 0 (11 + S) 3 F S (fun w' h1' h2' h3' => xinNew_any B p r v bs (t + 1 + 1) n last f s F S 0 3 w' h1' h2' hB hrp h3' hl hok h11 hF2 hS1 hS2 hFS (.inr (.inr ⟨h2, by rw [hd11, l13]; exact h3, y, by rw [hd11]; exact hy, hy2, ?_⟩))) |>.mono fun e w' h => h.err (by decide)
      rcases h5' with h5' | ⟨h5', h6'⟩
      · exact .inr (.inl ⟨h4, h5', rfl⟩)
      · exact .inr (.inr (.inl ⟨h4, h5', h6', rfl⟩))
    · rw [e]
      have := xnext_new B p r v bs t n last f s w HR HX hB hrp HT hl hn (by omega) hb hb1 (outX F S y) (11 + S) 0 F S (fun w' h1' h2' h3' => xinNew_any B p r v bs (t + 1 + 1) n last f s F S (outX F S y) 0 w' h1' h2' hB hrp h3' hl hok h11 hF2 hS1 hS2 hFS (.inr (.inr ⟨h2, by rw [hd11, l13]; exact h3, y, by rw [hd11]; exact hy, hy2, .inr (.inr (.inr ⟨h4, h5, h6, h7, rfl, rfl⟩))⟩)))
      rw [show 2 + (11 + S) = 13 + S by omega] at this
      exact this
end Go.Proofs.YtaagjedkojlbpaaDoor
