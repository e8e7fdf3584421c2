/- package limnographref07: Put. -/
import Derived.Test.YtaagjedkojlbpaaDoorW15
namespace Go.Proofs.YtaagjedkojlbpaaDoor
open Go.RowKit
attribute [local go_sem ↓] Go.wp_at_zero Go.wp_at_succ

theorem mine_lit1 (wb w : World) (k : Kept (fun _ => False) wb w) (u : Value) : Mine wb (w.alloc (.cells #[u] 3)) 3 (.slice (some ⟨w.heap.size, 0, none⟩) 1 1) [u] :=
  ⟨World.ownsRow_lit w #[u] 1 k.size (by unfold maxLen; omega) rfl, k.alloc _⟩
theorem mine_lit2 (wb w : World) (k : Kept (fun _ => False) wb w) (u x : Value) : Mine wb (w.alloc (.cells #[u, x] 3)) 3 (.slice (some ⟨w.heap.size, 0, none⟩) 2 2) [u, x] :=
  ⟨World.ownsRow_lit w #[u, x] 2 k.size (by unfold maxLen; omega) rfl, k.alloc _⟩
theorem results_tc {P : Program} {fn : Func} {p t : Tmp} {ty : TypeId} (h : fn.results = #[.tmp t, .cell p ty]) (tmps : Array Value) (w : World) (g : Nat) (t' : TypeId) (cs : Array Value) (fr : Nat × Nat) (d : TypeDesc)
    (hp : tmps.getD p undef = .pointer (some ⟨g, 0, none⟩)) (hg : w.heap[g]? = some (.cells cs t' fr))
    (hu : P.underlying ty = some d) (hd : (match d with | .struct _ | .array _ _ => true | _ => false) = true) (hi : (P.info? ty).map (·.size) = some cs.size) :
    (results fn tmps).run P w = .ok (.tuple #[tmps.getD t undef, .agg cs]) w := by
  have hp' : tmps[p]?.getD undef = .pointer (some ⟨g, 0, none⟩) := by simpa using hp
  simp [results, h, hp', asAddr, run_loadVar_row w g t' ty cs fr d hg hu hd hi]
theorem rput_end {fn : Func} {t p : Tmp} {a : Act} {P : Ending → World → Prop} {w : World} {q : Nat} {v : Value} {f s : Nat} (hres : fn.results = #[.tmp t, .cell p 63]) (hp : a.tmps.getD p undef = .pointer (some ⟨q, 0, none⟩)) (hd : a.defers = [])
    (hg : StBox w q v f s) (h : P (.returned (.tuple #[a.tmps.getD t undef, .agg #[v, .int .i64 (f : Int), .int .i64 (s : Int)]])) w) : bodyPost Tryd.prog fn P .ret a w :=
  bodyPost_ret (v := .tuple #[a.tmps.getD t undef, .agg #[v, .int .i64 (f : Int), .int .i64 (s : Int)]]) (results_tc hres _ _ q 63 _ (0, 0) _ hp hg Tryd.underlying63 rfl st_info) hd h
theorem cut64 {wb w : World} (a : Option Addr) (c lo n hi : Nat) {xs : List Value} (h : w.ownsRow wb.heap.size 3 1 (.slice a 64 c) 64 xs) (h1 : lo + n = hi) (h2 : hi ≤ 64) :
    ∃ (b : Option Addr) (m : Nat), (64 ≤ c ∧ m = c - lo) ∧ (b = if c = lo then a else a.map (·.add lo)) ∧
      (∀ w, (Instr.slice 26 (.slice a 64 c) (some (.int .i64 (lo : Int))) (some (.int .i64 (hi : Int))) none).run Tryd.prog w = .ok (.slice b n m) w) ∧
      (∀ w, (Instr.sliceAt 26 (.slice a 64 c) (some (.int .i64 (lo : Int))) (some (.int .i64 (hi : Int))) none).run Tryd.prog w = .ok (.slice b n m) w) := by
  obtain ⟨iI, hiI, hzI0, hzI1, hzI2⟩ := info_parts Tryd.infoInt
  have hc : 64 ≤ c := by
    rcases h.2 with ⟨e, h0⟩ | ⟨g, cap, cur, e, _, _, hc, _⟩
    · cases h0
    · cases e; exact hc
  have hn : hi - lo = n := by omega
  refine ⟨_, c - lo, ⟨hc, rfl⟩, rfl, fun w => ?_, fun w => ?_⟩
  · have := run_cut (P := Tryd.prog) Tryd.underlying26 hiI hzI1 a 64 c lo hi (by omega) (by omega) w
    rw [hn] at this; exact this
  · have := run_cutAt (P := Tryd.prog) Tryd.underlying26 hiI hzI1 a 64 c lo hi (by omega) (by omega) w
    rw [hn] at this; exact this

theorem cut_src {wb w : World} {a b : Option Addr} {c lo n X : Nat} {M : List Bool} {m : Nat} (h : Mine wb w 3 (.slice a 64 c) (ints (bitsN X 64))) (hb : b = if c = lo then a else a.map (·.add lo)) (h1 : lo + n ≤ 64) (hc : 64 ≤ c) (hm : m = c - lo) (hM : ((bitsN X 64).drop lo).take n = M) :
    Src Tryd.prog 1 26 (.slice b n m) (ints M).length (ints M) w := by
  have h2 := h.at_.cut (lo := lo) (hi := lo + n) (by omega) h1 hc
  rw [← hb, ← hm, Nat.add_sub_cancel_left] at h2
  have e : ((ints (bitsN X 64)).drop lo).take n = ints M := by unfold ints; rw [← List.map_drop, ← List.map_take, hM]
  rw [e] at h2
  exact h2.src Tryd.underlying26 (ints_one _)

/-- What the document's Put leaves. -/
def RPut (w : World) (l : List Nat) (x : Nat) (bits : List Bool) (F S : Nat) (e : Ending) (w' : World) : Prop :=
  ∃ vb v', e = .returned (.tuple #[vb, .agg #[v', .int .i64 (F : Int), .int .i64 (S : Int)]]) ∧ Mine w w' 3 vb (ints bits) ∧ Mine w w' 28 v' (xvals (l ++ [x]))
set_option maxHeartbeats 4000000 in
set_option maxRecDepth 100000 in
theorem rput_any (v : Value) (l : List Nat) (f s x : Nat) (w : World) (hv : SlAt w v (xvals l)) (hl : l.length ≤ 1000000) (hb : ∀ x ∈ l, x < 18446744073709551616) (hx : x < 18446744073709551616) (hok : okW f s) :
    Calls Tryd.prog 38 #[stV v f s, .int .u64 (x : Int)] w (RPut w l x (nextP l.length (lastN l l.length) f s x).1 (nextP l.length (lastN l l.length) f s x).2.1 (nextP l.length (lastN l l.length) f s x).2.2) := by
  obtain ⟨ao, ca, rfl, hvr⟩ := hv.val
  clear hvr
  rw [xvals_length] at hv ⊢
  have hlast := lastN_lt hb l.length
  have k0 := ((Kept.refl (fun _ => False) w).alloc (.cells #[.slice ao l.length ca, .int .i64 (f : Int), .int .i64 (s : Int)] 63)).alloc (.cells #[.slice none 0 0, .int .i64 0, .int .i64 0] 63)
  obtain ⟨wb, hwb⟩ : ∃ w', w' = (w.alloc (.cells #[.slice ao l.length ca, .int .i64 (f : Int), .int .i64 (s : Int)] 63)).alloc (.cells #[.slice none 0 0, .int .i64 0, .int .i64 0] 63) := ⟨_, rfl⟩
  have kk := fun (w : World) o => (Kept.refl (fun _ => False) w).alloc o
  have b1 : StBox wb w.heap.size (.slice ao l.length ca) f s := by
    rw [hwb]
    exact (show StBox (w.alloc (.cells #[.slice ao l.length ca, .int .i64 (f : Int), .int .i64 (s : Int)] 63)) w.heap.size (.slice ao l.length ca) f s from heap_alloc_new w _).same (kk _ _) (fun x => x)
  have b3 : StBox wb (w.heap.size + 1) (.slice none 0 0) 0 0 := by
    rw [hwb]
    have := heap_alloc_new (w.alloc (.cells #[.slice ao l.length ca, .int .i64 (f : Int), .int .i64 (s : Int)] 63)) (.cells #[.slice none 0 0, .int .i64 0, .int .i64 0] 63)
    rw [show (w.alloc (.cells #[.slice ao l.length ca, .int .i64 (f : Int), .int .i64 (s : Int)] 63)).heap.size = w.heap.size + 1 by simp] at this
    exact this
  rw [← hwb] at k0
  have HBX := Lib.hid fun w' (k : Kept (fun _ => False) wb w') => And.intro (b1.same k (fun x => x)) (b3.same k (fun x => x))
  have HQ := Lib.hid (show w.heap.size + 1 < wb.heap.size from (Array.getElem?_eq_some_iff.1 b3).1)
  have HK0 := Lib.hid k0
  have HLX : Hid ((xvals (l ++ [x])).length = l.length + 1) := Lib.hid (by simp)
  have hvb := hv.kept k0 (fun _ _ x => x)
  have HW := Lib.hid hwb
  obtain ⟨d0, d1, d2⟩ := b1.c
  by_cases h0 : l.length = 0
  · have e : nextP l.length (lastN l l.length) f s x = (bitsN x 64, f, s) := if_pos h0
    rw [e]
    have HROW := Lib.hid (rrow_any x hx)
    have HWITH := Lib.hid fun w' (k : Kept (fun _ => False) wb w') => rwith_any _ l f s x f s w' (hvb.kept k (fun _ _ x => x)) hl
    have n0 : ((l.length : Int) == 0) = true := by rw [h0]; rfl
    unfold RPut
    unfold stV winV at HWITH
    unfold stV
    have HLEN := Lib.hid h0
    clear hv k0 hwb kk b1 b3 hvb hlast hl hx hok e h0 hb
    go_enter Tryd.func38, Tryd.ntmps38
    go_wp2
    rw [← HW.out]
    refine AnyBut.start (S := fun w' => (w'.cell? ⟨w.heap.size, 0, none⟩ = some (.slice ao l.length ca) ∧ w'.cell? ⟨w.heap.size, 1, none⟩ = some (.int .i64 (f : Int)) ∧ w'.cell? ⟨w.heap.size, 2, none⟩ = some (.int .i64 (s : Int)))) (k := 8) (by kernel_rfl) ?_
    obtain ⟨wd, hwd⟩ : ∃ w', w' = wb.drew := ⟨_, rfl⟩
    have KD := Lib.hid (Kept.trans (Kept.refl (fun _ => False) wb) (Kept.refl (fun _ => False) wb).drew)
    rw [← hwd] at KD ⊢
    have HSD := Lib.hid (HBX.out _ KD.out).1.c
    clear hwd
    refine AnyBut.take (i := 0) (v := ?v1) rfl (by kernel_rfl) (by kernel_rfl) (by kernel_rfl) (by kernel_rfl) (fun _ _ _ h => h) (HSD.out) (Or.inl ⟨by kernel_rfl, ?hy1⟩) ?r1
    case hy1 =>
      intro w hSw
      try dsimp only at hSw
      go_simp
      try with_reducible rfl
    try simp only [Act.put, List.getElem_toArray, List.getElem_cons_zero, List.setIfInBounds_toArray, List.set_cons_zero, List.set_cons_succ]
    refine AnyBut.take (i := 2) (v := ?v2) rfl (by kernel_rfl) (by kernel_rfl) (by kernel_rfl) (by kernel_rfl) (fun _ _ _ h => h) (HSD.out) (Or.inl ⟨by kernel_rfl, ?hy2⟩) ?r2
    case hy2 =>
      intro w hSw
      try dsimp only at hSw
      go_simp
      try with_reducible rfl
    try simp only [Act.put, List.getElem_toArray, List.getElem_cons_succ, List.getElem_cons_zero, List.setIfInBounds_toArray, List.set_cons_zero, List.set_cons_succ]
    refine AnyBut.take (i := 3) (v := ?v3) rfl (by kernel_rfl) (by kernel_rfl) (by kernel_rfl) (by kernel_rfl) (fun _ _ _ h => h) (HSD.out) (Or.inl ⟨by kernel_rfl, ?hy3⟩) ?r3
    case hy3 =>
      intro w hSw
      try dsimp only at hSw
      go_simp
      try with_reducible rfl
    try simp only [Act.put, List.getElem_toArray, List.getElem_cons_succ, List.getElem_cons_zero, List.setIfInBounds_toArray, List.set_cons_zero, List.set_cons_succ]
    refine AnyBut.take (i := 4) (v := ?v4) rfl (by kernel_rfl) (by kernel_rfl) (by kernel_rfl) (by kernel_rfl) (fun _ _ _ h => h) (HSD.out) (Or.inl ⟨by kernel_rfl, ?hy4⟩) ?r4
    case hy4 =>
      intro w hSw
      try dsimp only at hSw
      go_simp
      try with_reducible rfl
    try simp only [Act.put, List.getElem_toArray, List.getElem_cons_succ, List.getElem_cons_zero, List.setIfInBounds_toArray, List.set_cons_zero, List.set_cons_succ]
    refine AnyBut.take (i := 5) (v := ?v5) rfl (by kernel_rfl) (by kernel_rfl) (by kernel_rfl) (by kernel_rfl) (fun _ _ _ h => h) (HSD.out) (Or.inl ⟨by kernel_rfl, ?hy5⟩) ?r5
    case hy5 =>
      intro w hSw
      try dsimp only at hSw
      go_simp
      try with_reducible rfl
    try simp only [Act.put, List.getElem_toArray, List.getElem_cons_succ, List.getElem_cons_zero, List.setIfInBounds_toArray, List.set_cons_zero, List.set_cons_succ]
    refine AnyBut.one (i := 1) (by kernel_rfl) rfl (fun K hK => ?_)
    go_simp
    go_wp2_with fail
    refine (HROW.out wd).mono ?_
    rintro e w1 ⟨a1, c1, rfl, hm⟩
    have HM1 := Lib.hid (hm.down KD.out)
    clear hm
    have HS1 := Lib.hid (HBX.out _ HM1.out.kept).1.c
    refine hK.out _ _ (HS1.out) ?_
    clear hK K
    try simp only [Act.put, List.getElem_toArray, List.getElem_cons_succ, List.getElem_cons_zero, List.setIfInBounds_toArray, List.set_cons_zero, List.set_cons_succ]
    refine AnyBut.one (i := 6) (by kernel_rfl) rfl (fun K hK => ?_)
    go_simp
    go_wp2_with fail
    refine (HWITH.out _ HM1.out.kept).mono ?_
    rintro e w2 ⟨v2, rfl, hm⟩
    obtain ⟨av2, cv2, ev⟩ := hm.slice
    rw [HLX.out] at ev
    subst ev
    have HV2 := Lib.hid (hm.down HM1.out.kept)
    have KM2 := Lib.hid hm.kept
    clear hm
    have HB2 := Lib.hid (HBX.out _ HV2.out.kept)
    have HS2 := Lib.hid HB2.out.1.c
    refine hK.out _ _ (HS2.out) ?_
    clear hK K
    try simp only [Act.put, List.getElem_toArray, List.getElem_cons_succ, List.getElem_cons_zero, List.setIfInBounds_toArray, List.set_cons_zero, List.set_cons_succ]
    refine AnyBut.take (i := 7) (v := ?v6) rfl (by kernel_rfl) (by kernel_rfl) (by kernel_rfl) (by kernel_rfl) (fun _ _ _ h => h) (HS2.out) (Or.inl ⟨by kernel_rfl, ?hy6⟩) ?r6
    case hy6 =>
      intro w hSw
      try dsimp only at hSw
      go_simp
      try with_reducible rfl
    try simp only [Act.put, List.getElem_toArray, List.getElem_cons_succ, List.getElem_cons_zero, List.setIfInBounds_toArray, List.set_cons_zero, List.set_cons_succ]
    refine AnyBut.last (by kernel_rfl) rfl (by kernel_rfl) (fun K hK => ?_)
    obtain ⟨x0, x1, x2⟩ := HB2.out.2.c
    have y0 := HB2.out.2.f 0
    have y1 := HB2.out.2.f 1
    have y2 := HB2.out.2.f 2
    go_simp
    go_wp2
    refine hK.out _ _ ?_
    clear hK K
    try simp only [Act.put, List.getElem_toArray, List.getElem_cons_succ, List.getElem_cons_zero, List.setIfInBounds_toArray, List.set_cons_zero, List.set_cons_succ]
    go_wp2
    refine rput_end Tryd.results38 rfl rfl (HB2.out.2.set (.slice av2 (l.length + 1) cv2) f s) ?_
    have m1 := Mine.set3 (HM1.out.on KM2.out) HK0.out (q := w.heap.size + 1) (by omega) HQ.out (.slice av2 (l.length + 1) cv2) (.int .i64 (f : Int)) (.int .i64 (s : Int))
    have m2 := HV2.out.set3 HK0.out (q := w.heap.size + 1) (by omega) HQ.out (.slice av2 (l.length + 1) cv2) (.int .i64 (f : Int)) (.int .i64 (s : Int))
    exact ⟨_, _, rfl, m1, m2⟩
  · have e : nextP l.length (lastN l l.length) f s x = putX f s (x ^^^ lastN l l.length) := if_neg h0
    rw [e]
    have n0 : ((l.length : Int) == 0) = false := beq_eq_false_iff_ne.2 (by omega)
    have hlw : ∀ w' (_ : Kept (fun _ => False) wb w'), _ := fun w' k => rlast_any _ l f s w' (hvb.kept k (fun _ _ x => x)) hl
    obtain ⟨L, hL⟩ : ∃ L, L = lastN l l.length := ⟨_, rfl⟩
    have HLAST := Lib.hid hlw
    rw [← hL] at HLAST hlast ⊢
    have hxor := u64_xor_nat x L hx hlast
    have hX := xor_lt x L hx hlast
    have hX0 : x ^^^ L = 0 ↔ x = L := by
      constructor
      · intro h
        have := xor_back2 x L
        rw [h, Nat.zero_xor] at this
        exact this
      · rintro rfl; exact Nat.xor_self _
    obtain ⟨X, hXe⟩ : ∃ X, X = x ^^^ L := ⟨_, rfl⟩
    rw [← hXe] at hxor hX hX0 ⊢
    have HROW := Lib.hid (rrow_any X hX)
    unfold RPut
    unfold stV at HLAST ⊢
    have hle := hok.le
    rcases putX_cases f s X hX with ⟨h1, e⟩ | ⟨h1, h2, h3, e⟩ | ⟨h1, h2, h3, e⟩
    · rw [e]
      have HWITH := Lib.hid fun w' (k : Kept (fun _ => False) wb w') => rwith_any _ l f s x f s w' (hvb.kept k (fun _ _ x => x)) hl
      unfold stV winV at HWITH
      have ee : ((x : Int) == (L : Int)) = true := by simp; exact_mod_cast hX0.1 h1
      clear hv k0 hwb kk b1 b3 hvb hlast hl hx hok e h0 hb hlw hL hXe hX hX0 h1 hle
      go_enter Tryd.func38, Tryd.ntmps38
      go_wp2_with fail
      rw [← HW.out]
      refine (HLAST.out _ (Kept.refl _ _)).mono ?_
      rintro e w1 ⟨rfl, k1⟩
      have K1 := Lib.hid k1
      clear k1
      go_wp2_with fail
      refine (HROW.out w1).mono ?_
      rintro e w2 ⟨a2, c2, rfl, hm⟩
      have HM2 := Lib.hid (hm.down K1.out)
      clear hm
      clear d0 d1 d2
      obtain ⟨d0, d1, d2⟩ := (HBX.out _ HM2.out.kept).1.c
      go_wp2_with fail
      refine (HLAST.out _ HM2.out.kept).mono ?_
      rintro e w3 ⟨rfl, k3⟩
      have HM3 := Lib.hid (HM2.out.on k3)
      clear k3
      clear d0 d1 d2
      have d0 := fun o => (HBX.out _ (HM3.out.kept.alloc o)).1.c.1
      have d1 := fun o => (HBX.out _ (HM3.out.kept.alloc o)).1.c.2.1
      have d2 := fun o => (HBX.out _ (HM3.out.kept.alloc o)).1.c.2.2
      go_wp2_with fail
      refine (HWITH.out _ (HM3.out.kept.alloc _)).mono ?_
      rintro e w4 ⟨v4, rfl, hm⟩
      obtain ⟨av4, cv4, ev⟩ := hm.slice
      rw [HLX.out] at ev
      subst ev
      have HV4 := Lib.hid (hm.down (HM3.out.kept.alloc _))
      have KM4 := Lib.hid hm.kept
      clear hm
      have HB4 := Lib.hid (HBX.out _ HV4.out.kept)
      have ML := Lib.hid ((mine_lit1 wb w3 HM3.out.kept (.int .i64 0)).on KM4.out)
      obtain ⟨x0, x1, x2⟩ := HB4.out.2.c
      have y0 := HB4.out.2.f 0
      have y1 := HB4.out.2.f 1
      have y2 := HB4.out.2.f 2
      go_wp2
      refine rput_end Tryd.results38 rfl rfl (HB4.out.2.set (.slice av4 (l.length + 1) cv4) f s) ?_
      have m1 := Mine.set3 (ML.out) HK0.out (q := w.heap.size + 1) (by omega) HQ.out (.slice av4 (l.length + 1) cv4) (.int .i64 (f : Int)) (.int .i64 (s : Int))
      have m2 := HV4.out.set3 HK0.out (q := w.heap.size + 1) (by omega) HQ.out (.slice av4 (l.length + 1) cv4) (.int .i64 (f : Int)) (.int .i64 (s : Int))
      exact ⟨_, _, rfl, m1, m2⟩
    · rw [e]
      have HWITH := Lib.hid fun w' (k : Kept (fun _ => False) wb w') => rwith_any _ l f s x f s w' (hvb.kept k (fun _ _ x => x)) hl
      unfold stV winV at HWITH
      have ee : ((x : Int) == (L : Int)) = false := by simp; intro h; exact h1 (hX0.2 (by omega))
      have HIN := Lib.hid fun w' v (h : SlAt w' v (ints (bitsN X 64))) => rin_any v f s X w' h hX (by omega) hle.2.2
      rw [decide_eq_true (And.intro h2 h3)] at HIN
      unfold winV at HIN
      obtain ⟨E, hE⟩ : ∃ E, E = f + s := ⟨_, rfl⟩
      have afs : IntKind.i64.wrap ((f : Int) + (s : Int)) = (E : Int) := by rw [IntWalk.i64_in _ ⟨by omega, by omega⟩]; omega
      have HFS := Lib.hid (show f + s = E ∧ E ≤ 64 by omega)
      have hmid := mid_cut f s X hle.2.2
      have hml := midB_length f s X
      obtain ⟨M, hM⟩ : ∃ M, M = midB f s X := ⟨_, rfl⟩
      rw [← hM] at hmid hml ⊢
      have HMID := Lib.hid hmid
      have HMLEN := Lib.hid hml
      clear hv k0 hwb kk b1 b3 hvb hlast hl hx hok e h0 hb hlw hL hXe hX hX0 h1 h2 h3 hle hE hmid hml hM
      go_enter Tryd.func38, Tryd.ntmps38
      go_wp2_with fail
      rw [← HW.out]
      refine (HLAST.out _ (Kept.refl _ _)).mono ?_
      rintro e w1 ⟨rfl, k1⟩
      have K1 := Lib.hid k1
      clear k1
      go_wp2_with fail
      refine (HROW.out w1).mono ?_
      rintro e w2 ⟨a2, c2, rfl, hm⟩
      have HM2 := Lib.hid (hm.down K1.out)
      clear hm
      clear d0 d1 d2
      obtain ⟨d0, d1, d2⟩ := (HBX.out _ HM2.out.kept).1.c
      go_wp2_with fail
      refine (HLAST.out _ HM2.out.kept).mono ?_
      rintro e w3 ⟨rfl, k3⟩
      have HM3 := Lib.hid (HM2.out.on k3)
      clear k3
      clear d0 d1 d2
      obtain ⟨d0, d1, d2⟩ := (HBX.out _ HM3.out.kept).1.c
      go_wp2_with fail
      refine (HIN.out _ _ HM3.out.at_).mono ?_
      rintro e w4 ⟨rfl, k4⟩
      have HM4 := Lib.hid (HM3.out.on k4)
      clear k4 d0 d1 d2
      go_wp2
      obtain ⟨b2, m2, hcap, hb2, s1, s2⟩ := cut64 a2 c2 f s E HM4.out.own (by have := HFS.out; omega) (by have := HFS.out; omega)
      have HCAP := Lib.hid hcap
      clear hcap
      have HSRC := Lib.hid fun w' (h : Mine wb w' 3 (.slice a2 64 c2) (ints (bitsN X 64))) => cut_src h hb2 (by have := HFS.out; omega) HCAP.out.1 HCAP.out.2 HMID.out
      have HMI := Lib.hid HMLEN.out
      clear hb2
      refine AnyBut.start (S := fun w' => (w'.cell? ⟨w.heap.size, 0, none⟩ = some (.slice ao l.length ca) ∧ w'.cell? ⟨w.heap.size, 1, none⟩ = some (.int .i64 (f : Int)) ∧ w'.cell? ⟨w.heap.size, 2, none⟩ = some (.int .i64 (s : Int)))) (k := 20) (by kernel_rfl) ?_
      obtain ⟨wd, hwd⟩ : ∃ w', w' = w4.drew := ⟨_, rfl⟩
      have KD := Lib.hid (Kept.trans HM4.out.kept (Kept.refl (fun _ => False) w4).drew)
      rw [← hwd] at KD ⊢
      have HSD := Lib.hid (HBX.out _ KD.out).1.c
      have HMD := Lib.hid (HM4.out.on (Kept.refl (fun _ => False) w4).drew)
      rw [← hwd] at HMD
      clear hwd
      refine AnyBut.take (i := 1) (v := ?v7) rfl (by kernel_rfl) (by kernel_rfl) (by kernel_rfl) (by kernel_rfl) (fun _ _ _ h => h) (HSD.out) (Or.inl ⟨by kernel_rfl, ?hy7⟩) ?r7
      case hy7 =>
        intro w hSw
        try dsimp only at hSw
        go_simp
        try with_reducible rfl
      try simp only [Act.put, List.getElem_toArray, List.getElem_cons_succ, List.getElem_cons_zero, List.setIfInBounds_toArray, List.set_cons_zero, List.set_cons_succ]
      refine AnyBut.take (i := 2) (v := ?v8) rfl (by kernel_rfl) (by kernel_rfl) (by kernel_rfl) (by kernel_rfl) (fun _ _ _ h => h) (HSD.out) (Or.inl ⟨by kernel_rfl, ?hy8⟩) ?r8
      case hy8 =>
        intro w hSw
        try dsimp only at hSw
        go_simp
        try with_reducible rfl
      try simp only [Act.put, List.getElem_toArray, List.getElem_cons_succ, List.getElem_cons_zero, List.setIfInBounds_toArray, List.set_cons_zero, List.set_cons_succ]
      refine AnyBut.take (i := 3) (v := ?v9) rfl (by kernel_rfl) (by kernel_rfl) (by kernel_rfl) (by kernel_rfl) (fun _ _ _ h => h) (HSD.out) (Or.inl ⟨by kernel_rfl, ?hy9⟩) ?r9
      case hy9 =>
        intro w hSw
        try dsimp only at hSw
        go_simp
        try with_reducible rfl
      try simp only [Act.put, List.getElem_toArray, List.getElem_cons_succ, List.getElem_cons_zero, List.setIfInBounds_toArray, List.set_cons_zero, List.set_cons_succ]
      refine AnyBut.take (i := 4) (v := ?v10) rfl (by kernel_rfl) (by kernel_rfl) (by kernel_rfl) (by kernel_rfl) (fun _ _ _ h => h) (HSD.out) (Or.inl ⟨by kernel_rfl, ?hy10⟩) ?r10
      case hy10 =>
        intro w hSw
        try dsimp only at hSw
        go_simp
        try with_reducible rfl
      try simp only [Act.put, List.getElem_toArray, List.getElem_cons_succ, List.getElem_cons_zero, List.setIfInBounds_toArray, List.set_cons_zero, List.set_cons_succ]
      refine AnyBut.take (i := 5) (v := ?v11) rfl (by kernel_rfl) (by kernel_rfl) (by kernel_rfl) (by kernel_rfl) (fun _ _ _ h => h) (HSD.out) (Or.inl ⟨by kernel_rfl, ?hy11⟩) ?r11
      case hy11 =>
        intro w hSw
        try dsimp only at hSw
        go_simp
        try with_reducible rfl
      try simp only [Act.put, List.getElem_toArray, List.getElem_cons_succ, List.getElem_cons_zero, List.setIfInBounds_toArray, List.set_cons_zero, List.set_cons_succ]
      refine AnyBut.take (i := 6) (v := ?v12) rfl (by kernel_rfl) (by kernel_rfl) (by kernel_rfl) (by kernel_rfl) (fun _ _ _ h => h) (HSD.out) (Or.inl ⟨by kernel_rfl, ?hy12⟩) ?r12
      case hy12 =>
        intro w hSw
        try dsimp only at hSw
        go_simp
        try with_reducible rfl
      try simp only [Act.put, List.getElem_toArray, List.getElem_cons_succ, List.getElem_cons_zero, List.setIfInBounds_toArray, List.set_cons_zero, List.set_cons_succ]
      refine AnyBut.take (i := 7) (v := ?v13) rfl (by kernel_rfl) (by kernel_rfl) (by kernel_rfl) (by kernel_rfl) (fun _ _ _ h => h) (HSD.out) (Or.inl ⟨by kernel_rfl, ?hy13⟩) ?r13
      case hy13 =>
        intro w hSw
        try dsimp only at hSw
        go_simp
        try with_reducible rfl
      try simp only [Act.put, List.getElem_toArray, List.getElem_cons_succ, List.getElem_cons_zero, List.setIfInBounds_toArray, List.set_cons_zero, List.set_cons_succ]
      refine AnyBut.take (i := 8) (v := ?v14) rfl (by kernel_rfl) (by kernel_rfl) (by kernel_rfl) (by kernel_rfl) (fun _ _ _ h => h) (HSD.out) (Or.inl ⟨by kernel_rfl, ?hy14⟩) ?r14
      case hy14 =>
        intro w hSw
        try dsimp only at hSw
        go_simp
        try with_reducible rfl
      try simp only [Act.put, List.getElem_toArray, List.getElem_cons_succ, List.getElem_cons_zero, List.setIfInBounds_toArray, List.set_cons_zero, List.set_cons_succ]
      refine AnyBut.take (i := 9) (v := ?v15) rfl (by kernel_rfl) (by kernel_rfl) (by kernel_rfl) (by kernel_rfl) (fun _ _ _ h => h) (HSD.out) (Or.inl ⟨by kernel_rfl, ?hy15⟩) ?r15
      case hy15 =>
        intro w hSw
        try dsimp only at hSw
        go_simp
        try with_reducible rfl
      try simp only [Act.put, List.getElem_toArray, List.getElem_cons_succ, List.getElem_cons_zero, List.setIfInBounds_toArray, List.set_cons_zero, List.set_cons_succ]
      refine AnyBut.take (i := 10) (v := ?v16) rfl (by kernel_rfl) (by kernel_rfl) (by kernel_rfl) (by kernel_rfl) (fun _ _ _ h => h) (HSD.out) (Or.inl ⟨by kernel_rfl, ?hy16⟩) ?r16
      case hy16 =>
        intro w hSw
        try dsimp only at hSw
        go_simp
        try with_reducible rfl
      try simp only [Act.put, List.getElem_toArray, List.getElem_cons_succ, List.getElem_cons_zero, List.setIfInBounds_toArray, List.set_cons_zero, List.set_cons_succ]
      refine AnyBut.take (i := 11) (v := ?v17) rfl (by kernel_rfl) (by kernel_rfl) (by kernel_rfl) (by kernel_rfl) (fun _ _ _ h => h) (HSD.out) (Or.inl ⟨by kernel_rfl, ?hy17⟩) ?r17
      case hy17 =>
        intro w hSw
        try dsimp only at hSw
        go_simp
        try with_reducible rfl
      try simp only [Act.put, List.getElem_toArray, List.getElem_cons_succ, List.getElem_cons_zero, List.setIfInBounds_toArray, List.set_cons_zero, List.set_cons_succ]
      refine AnyBut.take (i := 12) (v := ?v18) rfl (by kernel_rfl) (by kernel_rfl) (by kernel_rfl) (by kernel_rfl) (fun _ _ _ h => h) (HSD.out) (Or.inl ⟨by kernel_rfl, ?hy18⟩) ?r18
      case hy18 =>
        intro w hSw
        try dsimp only at hSw
        go_simp
        try with_reducible rfl
      try simp only [Act.put, List.getElem_toArray, List.getElem_cons_succ, List.getElem_cons_zero, List.setIfInBounds_toArray, List.set_cons_zero, List.set_cons_succ]
      refine AnyBut.take (i := 14) (v := ?v19) rfl (by kernel_rfl) (by kernel_rfl) (by kernel_rfl) (by kernel_rfl) (fun _ _ _ h => h) (HSD.out) (Or.inl ⟨by kernel_rfl, ?hy19⟩) ?r19
      case hy19 =>
        intro w hSw
        try dsimp only at hSw
        go_simp
        try with_reducible rfl
      try simp only [Act.put, List.getElem_toArray, List.getElem_cons_succ, List.getElem_cons_zero, List.setIfInBounds_toArray, List.set_cons_zero, List.set_cons_succ]
      refine AnyBut.take (i := 15) (v := ?v20) rfl (by kernel_rfl) (by kernel_rfl) (by kernel_rfl) (by kernel_rfl) (fun _ _ _ h => h) (HSD.out) (Or.inl ⟨by kernel_rfl, ?hy20⟩) ?r20
      case hy20 =>
        intro w hSw
        try dsimp only at hSw
        go_simp
        try with_reducible rfl
      try simp only [Act.put, List.getElem_toArray, List.getElem_cons_succ, List.getElem_cons_zero, List.setIfInBounds_toArray, List.set_cons_zero, List.set_cons_succ]
      refine AnyBut.take (i := 16) (v := ?v21) rfl (by kernel_rfl) (by kernel_rfl) (by kernel_rfl) (by kernel_rfl) (fun _ _ _ h => h) (HSD.out) (Or.inl ⟨by kernel_rfl, ?hy21⟩) ?r21
      case hy21 =>
        intro w hSw
        try dsimp only at hSw
        go_simp
        try with_reducible rfl
      try simp only [Act.put, List.getElem_toArray, List.getElem_cons_succ, List.getElem_cons_zero, List.setIfInBounds_toArray, List.set_cons_zero, List.set_cons_succ]
      refine AnyBut.take (i := 17) (v := ?v22) rfl (by kernel_rfl) (by kernel_rfl) (by kernel_rfl) (by kernel_rfl) (fun _ _ _ h => h) (HSD.out) (Or.inl ⟨by kernel_rfl, ?hy22⟩) ?r22
      case hy22 =>
        intro w hSw
        try dsimp only at hSw
        go_simp
        try with_reducible rfl
      try simp only [Act.put, List.getElem_toArray, List.getElem_cons_succ, List.getElem_cons_zero, List.setIfInBounds_toArray, List.set_cons_zero, List.set_cons_succ]
      refine AnyBut.one (i := 0) (by kernel_rfl) rfl (fun K hK => ?_)
      go_simp
      have HL0 := Lib.hid (mine_lit2 wb wd KD.out (.int .i64 1) (.int .i64 0))
      have HX5 := Lib.hid (HMD.out.on ((Kept.refl (fun _ => False) wd).alloc (.cells #[.int .i64 1, .int .i64 0] 3)))
      have HS5 := Lib.hid (HBX.out _ HL0.out.kept).1.c
      refine hK.out _ _ (HS5.out) ?_
      clear hK K
      try simp only [Act.put, List.getElem_toArray, List.getElem_cons_succ, List.getElem_cons_zero, List.setIfInBounds_toArray, List.set_cons_zero, List.set_cons_succ]
      refine AnyBut.one (i := 13) (by kernel_rfl) rfl (fun K hK => ?_)
      refine step_mineI (by rfl) (.tmp 43) (.tmp 55) (by rfl) wb _ _ (by rfl) HL0.out _ (ints M) (by rfl) (HSRC.out _ HX5.out) (by have := HFS.out; simp only [ints_length, List.length_cons, List.length_nil]; have := HMI.out; omega) ?_
      intro v8 w8 hm8
      have HM8 := Lib.hid hm8
      obtain ⟨a8, c8, e8⟩ := hm8.slice
      obtain ⟨n8, hn8⟩ : ∃ n, v8 = Value.slice a8 n c8 := ⟨_, e8⟩
      clear e8
      subst hn8
      have HS8 := Lib.hid (HBX.out _ hm8.kept).1.c
      clear hm8
      refine hK.out _ _ (HS8.out) ?_
      clear hK K
      try simp only [Act.put, List.getElem_toArray, List.getElem_cons_succ, List.getElem_cons_zero, List.setIfInBounds_toArray, List.set_cons_zero, List.set_cons_succ]
      refine AnyBut.one (i := 18) (by kernel_rfl) rfl (fun K hK => ?_)
      go_simp
      go_wp2_with fail
      refine (HWITH.out _ HM8.out.kept).mono ?_
      rintro e w9 ⟨v9, rfl, hm⟩
      obtain ⟨av9, cv9, ev⟩ := hm.slice
      rw [HLX.out] at ev
      subst ev
      have HV9 := Lib.hid (hm.down HM8.out.kept)
      have KM9 := Lib.hid hm.kept
      clear hm
      have HB9 := Lib.hid (HBX.out _ HV9.out.kept)
      have HS9 := Lib.hid HB9.out.1.c
      refine hK.out _ _ (HS9.out) ?_
      clear hK K
      try simp only [Act.put, List.getElem_toArray, List.getElem_cons_succ, List.getElem_cons_zero, List.setIfInBounds_toArray, List.set_cons_zero, List.set_cons_succ]
      refine AnyBut.take (i := 19) (v := ?v23) rfl (by kernel_rfl) (by kernel_rfl) (by kernel_rfl) (by kernel_rfl) (fun _ _ _ h => h) (HS9.out) (Or.inl ⟨by kernel_rfl, ?hy23⟩) ?r23
      case hy23 =>
        intro w hSw
        try dsimp only at hSw
        go_simp
        try with_reducible rfl
      try simp only [Act.put, List.getElem_toArray, List.getElem_cons_succ, List.getElem_cons_zero, List.setIfInBounds_toArray, List.set_cons_zero, List.set_cons_succ]
      refine AnyBut.last (by kernel_rfl) rfl (by kernel_rfl) (fun K hK => ?_)
      obtain ⟨x0, x1, x2⟩ := HB9.out.2.c
      have y0 := HB9.out.2.f 0
      have y1 := HB9.out.2.f 1
      have y2 := HB9.out.2.f 2
      go_simp
      go_wp2
      refine hK.out _ _ ?_
      clear hK K
      try simp only [Act.put, List.getElem_toArray, List.getElem_cons_succ, List.getElem_cons_zero, List.setIfInBounds_toArray, List.set_cons_zero, List.set_cons_succ]
      go_wp2
      refine rput_end Tryd.results38 rfl rfl (HB9.out.2.set (.slice av9 (l.length + 1) cv9) f s) ?_
      have m1 := Mine.set3 (HM8.out.on KM9.out) HK0.out (q := w.heap.size + 1) (by omega) HQ.out (.slice av9 (l.length + 1) cv9) (.int .i64 (f : Int)) (.int .i64 (s : Int))
      have m2 := HV9.out.set3 HK0.out (q := w.heap.size + 1) (by omega) HQ.out (.slice av9 (l.length + 1) cv9) (.int .i64 (f : Int)) (.int .i64 (s : Int))
      exact ⟨_, _, rfl, m1, m2⟩
    · rw [e]
      have hin := new_in X hX h1
      obtain ⟨F, hF⟩ : ∃ F, F = newF X := ⟨_, rfl⟩
      obtain ⟨S, hS⟩ : ∃ S, S = newS X := ⟨_, rfl⟩
      have HWITH := Lib.hid fun w' (k : Kept (fun _ => False) wb w') => rwith_any _ l f s x F S w' (hvb.kept k (fun _ _ x => x)) hl
      unfold stV winV at HWITH
      have ee : ((x : Int) == (L : Int)) = false := by simp; intro h; exact h1 (hX0.2 (by omega))
      have HIN := Lib.hid fun w' v (h : SlAt w' v (ints (bitsN X 64))) => rin_any v f s X w' h hX (by omega) hle.2.2
      rw [decide_eq_false h2] at HIN
      have HAR := Lib.hid fun w' v (h : SlAt w' v (ints (bitsN X 64))) => raround_any v X w' h hX h1
      unfold winV at HIN HAR
      have hmid := mid_cut (newF X) (newS X) X (by omega)
      have hml := midB_length (newF X) (newS X) X
      rw [← hF, ← hS] at h3 hmid hml HAR hin ⊢
      have HR5 := Lib.hid (row_of F 5 (by omega) (by omega))
      have HR6 := Lib.hid (row_of (S - 1) 6 (by omega) (by omega))
      obtain ⟨E, hE⟩ : ∃ E, E = F + S := ⟨_, rfl⟩
      have afs : IntKind.i64.wrap ((F : Int) + (S : Int)) = (E : Int) := by rw [IntWalk.i64_in _ ⟨by omega, by omega⟩]; omega
      have t1 : IntKind.i64.wrap ((S : Int) - 1) = ((S - 1 : Nat) : Int) := by rw [IntWalk.i64_in _ ⟨by omega, by omega⟩]; omega
      have t2 : IntKind.u64.wrap ((S - 1 : Nat) : Int) = ((S - 1 : Nat) : Int) := by rw [IntKind.wrap_u64]; omega
      have t3 : IntKind.u64.wrap (F : Int) = (F : Int) := by rw [IntKind.wrap_u64]; omega
      have HFS := Lib.hid (show F + S = E ∧ E ≤ 64 by omega)
      obtain ⟨M, hM⟩ : ∃ M, M = midB F S X := ⟨_, rfl⟩
      rw [← hM] at hmid hml ⊢
      have HMID := Lib.hid hmid
      have HMLEN := Lib.hid hml
      clear hv k0 hwb kk b1 b3 hvb hlast hl hx hok e h0 hb hlw hL hXe hX hX0 h1 h2 h3 hle hE hmid hml hM hF hS hin
      go_enter Tryd.func38, Tryd.ntmps38
      go_wp2_with fail
      rw [← HW.out]
      refine (HLAST.out _ (Kept.refl _ _)).mono ?_
      rintro e w1 ⟨rfl, k1⟩
      have K1 := Lib.hid k1
      clear k1
      go_wp2_with fail
      refine (HROW.out w1).mono ?_
      rintro e w2 ⟨a2, c2, rfl, hm⟩
      have HM2 := Lib.hid (hm.down K1.out)
      clear hm
      clear d0 d1 d2
      obtain ⟨d0, d1, d2⟩ := (HBX.out _ HM2.out.kept).1.c
      go_wp2_with fail
      refine (HLAST.out _ HM2.out.kept).mono ?_
      rintro e w3 ⟨rfl, k3⟩
      have HM3 := Lib.hid (HM2.out.on k3)
      clear k3
      clear d0 d1 d2
      obtain ⟨d0, d1, d2⟩ := (HBX.out _ HM3.out.kept).1.c
      go_wp2_with fail
      refine (HIN.out _ _ HM3.out.at_).mono ?_
      rintro e w4 ⟨rfl, k4⟩
      have HM4 := Lib.hid (HM3.out.on k4)
      clear k4 d0 d1 d2
      go_wp2_with fail
      refine (HAR.out _ _ HM4.out.at_).mono ?_
      rintro e w5 ⟨rfl, k5⟩
      have HM5 := Lib.hid (HM4.out.on k5)
      clear k5
      obtain ⟨w6, hw6⟩ : ∃ w', w' = w5.alloc (.cells #[.int .i64 (F : Int), .int .i64 (S : Int)] 61) := ⟨_, rfl⟩
      have k6 : Kept (fun _ => False) w5 w6 := by rw [hw6]; exact (Kept.refl _ _).alloc _
      have b6 : WinR w6 w5.heap.size F S := by rw [hw6]; exact WinR.new w5 _ _
      have HWB := Lib.hid fun w' (k : Kept (fun _ => False) w6 w') => b6.same k (fun x => x)
      have HM6 := Lib.hid (HM5.out.on k6)
      have HW6 := Lib.hid hw6
      clear k6 b6 hw6
      go_wp2_with fail
      rw [← HW6.out]
      refine (HR5.out w6).mono ?_
      rintro e w7 ⟨a7, c7, b7, rfl, ho, hk⟩
      have HR7 := Lib.hid (Mine.ofFresh ho hk)
      clear ho hk
      obtain ⟨g0, g1⟩ := (HWB.out _ HR7.out.kept).c
      go_wp2_with fail
      refine (HR6.out w7).mono ?_
      rintro e w8 ⟨a8, c8, b8, rfl, ho, hk⟩
      have HR8 := Lib.hid (Mine.ofFresh ho hk)
      clear ho hk g0 g1
      have K68 := Lib.hid (HR7.out.kept.trans HR8.out.kept)
      have K8 := Lib.hid (HM6.out.kept.trans K68.out)
      have HMX8 := Lib.hid (HM6.out.on K68.out)
      go_wp2_with (first | (at_builtin; refine wpList_mineI rfl (.tmp 82) (.tmp 83) rfl w8 _ _ rfl HM9.out _ _ rfl (HR8.out.srcI HM9.out.kept) (by simp) ?_; intro v10 w10 hm10; obtain ⟨a10, c10, e10⟩ := hm10.slice; obtain ⟨n10, hn10⟩ : ∃ n, v10 = Value.slice a10 n c10 := ⟨_, e10⟩; clear e10; subst hn10; have HM10 := Lib.hid hm10; clear hm10) | (at_builtin; refine wpList_mineI rfl (.tmp 79) (.tmp 80) rfl w8 _ _ rfl (mine_lit2 w8 w8 (Kept.refl _ _) (.int .i64 1) (.int .i64 1)) _ _ rfl (HR7.out.srcI (HR8.out.kept.alloc _)) (by simp) ?_; intro v9 w9 hm9; obtain ⟨a9, c9, e9⟩ := hm9.slice; obtain ⟨n9, hn9⟩ : ∃ n, v9 = Value.slice a9 n c9 := ⟨_, e9⟩; clear e9; subst hn9; have HM9 := Lib.hid hm9; clear hm9))
      go_wp2
      obtain ⟨b2, m2, hcap, hb2, s1, s2⟩ := cut64 a2 c2 F S E HM4.out.own (by have := HFS.out; omega) (by have := HFS.out; omega)
      have HCAP := Lib.hid hcap
      clear hcap
      have HSRC := Lib.hid fun w' (h : Mine wb w' 3 (.slice a2 64 c2) (ints (bitsN X 64))) => cut_src h hb2 (by have := HFS.out; omega) HCAP.out.1 HCAP.out.2 HMID.out
      have HMI := Lib.hid HMLEN.out
      clear hb2
      refine AnyBut.start (S := fun w' => (w'.cell? ⟨w.heap.size, 0, none⟩ = some (.slice ao l.length ca) ∧ w'.cell? ⟨w.heap.size, 1, none⟩ = some (.int .i64 (f : Int)) ∧ w'.cell? ⟨w.heap.size, 2, none⟩ = some (.int .i64 (s : Int))) ∧ (w'.cell? ⟨w5.heap.size, 0, none⟩ = some (.int .i64 (F : Int)) ∧ w'.cell? ⟨w5.heap.size, 1, none⟩ = some (.int .i64 (S : Int)))) (k := 16) (by kernel_rfl) ?_
      obtain ⟨wd, hwd⟩ : ∃ w', w' = w10.drew := ⟨_, rfl⟩
      have KD := Lib.hid (Kept.trans (K8.out.trans HM10.out.kept) (Kept.refl (fun _ => False) w10).drew)
      rw [← hwd] at KD ⊢
      have HMD10 := Lib.hid (HM10.out.on (Kept.refl (fun _ => False) w10).drew)
      rw [← hwd] at HMD10
      have HSD := Lib.hid (And.intro (HBX.out _ KD.out).1.c (HWB.out _ (K68.out.trans HMD10.out.kept)).c)
      clear hwd
      refine AnyBut.take (i := 0) (v := ?v24) rfl (by kernel_rfl) (by kernel_rfl) (by kernel_rfl) (by kernel_rfl) (fun _ _ _ h => h) (HSD.out) (Or.inl ⟨by kernel_rfl, ?hy24⟩) ?r24
      case hy24 =>
        intro w hSw
        try dsimp only at hSw
        go_simp
        try with_reducible rfl
      try simp only [Act.put, List.getElem_toArray, List.getElem_cons_zero, List.setIfInBounds_toArray, List.set_cons_zero, List.set_cons_succ]
      refine AnyBut.take (i := 1) (v := ?v25) rfl (by kernel_rfl) (by kernel_rfl) (by kernel_rfl) (by kernel_rfl) (fun _ _ _ h => h) (HSD.out) (Or.inl ⟨by kernel_rfl, ?hy25⟩) ?r25
      case hy25 =>
        intro w hSw
        try dsimp only at hSw
        go_simp
        try with_reducible rfl
      try simp only [Act.put, List.getElem_toArray, List.getElem_cons_succ, List.getElem_cons_zero, List.setIfInBounds_toArray, List.set_cons_zero, List.set_cons_succ]
      refine AnyBut.take (i := 2) (v := ?v26) rfl (by kernel_rfl) (by kernel_rfl) (by kernel_rfl) (by kernel_rfl) (fun _ _ _ h => h) (HSD.out) (Or.inl ⟨by kernel_rfl, ?hy26⟩) ?r26
      case hy26 =>
        intro w hSw
        try dsimp only at hSw
        go_simp
        try with_reducible rfl
      try simp only [Act.put, List.getElem_toArray, List.getElem_cons_succ, List.getElem_cons_zero, List.setIfInBounds_toArray, List.set_cons_zero, List.set_cons_succ]
      refine AnyBut.take (i := 3) (v := ?v27) rfl (by kernel_rfl) (by kernel_rfl) (by kernel_rfl) (by kernel_rfl) (fun _ _ _ h => h) (HSD.out) (Or.inl ⟨by kernel_rfl, ?hy27⟩) ?r27
      case hy27 =>
        intro w hSw
        try dsimp only at hSw
        go_simp
        try with_reducible rfl
      try simp only [Act.put, List.getElem_toArray, List.getElem_cons_succ, List.getElem_cons_zero, List.setIfInBounds_toArray, List.set_cons_zero, List.set_cons_succ]
      refine AnyBut.take (i := 4) (v := ?v28) rfl (by kernel_rfl) (by kernel_rfl) (by kernel_rfl) (by kernel_rfl) (fun _ _ _ h => h) (HSD.out) (Or.inl ⟨by kernel_rfl, ?hy28⟩) ?r28
      case hy28 =>
        intro w hSw
        try dsimp only at hSw
        go_simp
        try with_reducible rfl
      try simp only [Act.put, List.getElem_toArray, List.getElem_cons_succ, List.getElem_cons_zero, List.setIfInBounds_toArray, List.set_cons_zero, List.set_cons_succ]
      refine AnyBut.take (i := 5) (v := ?v29) rfl (by kernel_rfl) (by kernel_rfl) (by kernel_rfl) (by kernel_rfl) (fun _ _ _ h => h) (HSD.out) (Or.inl ⟨by kernel_rfl, ?hy29⟩) ?r29
      case hy29 =>
        intro w hSw
        try dsimp only at hSw
        go_simp
        try with_reducible rfl
      try simp only [Act.put, List.getElem_toArray, List.getElem_cons_succ, List.getElem_cons_zero, List.setIfInBounds_toArray, List.set_cons_zero, List.set_cons_succ]
      refine AnyBut.take (i := 6) (v := ?v30) rfl (by kernel_rfl) (by kernel_rfl) (by kernel_rfl) (by kernel_rfl) (fun _ _ _ h => h) (HSD.out) (Or.inl ⟨by kernel_rfl, ?hy30⟩) ?r30
      case hy30 =>
        intro w hSw
        try dsimp only at hSw
        go_simp
        try with_reducible rfl
      try simp only [Act.put, List.getElem_toArray, List.getElem_cons_succ, List.getElem_cons_zero, List.setIfInBounds_toArray, List.set_cons_zero, List.set_cons_succ]
      refine AnyBut.take (i := 7) (v := ?v31) rfl (by kernel_rfl) (by kernel_rfl) (by kernel_rfl) (by kernel_rfl) (fun _ _ _ h => h) (HSD.out) (Or.inl ⟨by kernel_rfl, ?hy31⟩) ?r31
      case hy31 =>
        intro w hSw
        try dsimp only at hSw
        go_simp
        try with_reducible rfl
      try simp only [Act.put, List.getElem_toArray, List.getElem_cons_succ, List.getElem_cons_zero, List.setIfInBounds_toArray, List.set_cons_zero, List.set_cons_succ]
      refine AnyBut.take (i := 8) (v := ?v32) rfl (by kernel_rfl) (by kernel_rfl) (by kernel_rfl) (by kernel_rfl) (fun _ _ _ h => h) (HSD.out) (Or.inl ⟨by kernel_rfl, ?hy32⟩) ?r32
      case hy32 =>
        intro w hSw
        try dsimp only at hSw
        go_simp
        try with_reducible rfl
      try simp only [Act.put, List.getElem_toArray, List.getElem_cons_succ, List.getElem_cons_zero, List.setIfInBounds_toArray, List.set_cons_zero, List.set_cons_succ]
      refine AnyBut.take (i := 9) (v := ?v33) rfl (by kernel_rfl) (by kernel_rfl) (by kernel_rfl) (by kernel_rfl) (fun _ _ _ h => h) (HSD.out) (Or.inl ⟨by kernel_rfl, ?hy33⟩) ?r33
      case hy33 =>
        intro w hSw
        try dsimp only at hSw
        go_simp
        try with_reducible rfl
      try simp only [Act.put, List.getElem_toArray, List.getElem_cons_succ, List.getElem_cons_zero, List.setIfInBounds_toArray, List.set_cons_zero, List.set_cons_succ]
      refine AnyBut.take (i := 11) (v := ?v34) rfl (by kernel_rfl) (by kernel_rfl) (by kernel_rfl) (by kernel_rfl) (fun _ _ _ h => h) (HSD.out) (Or.inl ⟨by kernel_rfl, ?hy34⟩) ?r34
      case hy34 =>
        intro w hSw
        try dsimp only at hSw
        go_simp
        try with_reducible rfl
      try simp only [Act.put, List.getElem_toArray, List.getElem_cons_succ, List.getElem_cons_zero, List.setIfInBounds_toArray, List.set_cons_zero, List.set_cons_succ]
      refine AnyBut.take (i := 12) (v := ?v35) rfl (by kernel_rfl) (by kernel_rfl) (by kernel_rfl) (by kernel_rfl) (fun _ _ _ h => h) (HSD.out) (Or.inl ⟨by kernel_rfl, ?hy35⟩) ?r35
      case hy35 =>
        intro w hSw
        try dsimp only at hSw
        go_simp
        try with_reducible rfl
      try simp only [Act.put, List.getElem_toArray, List.getElem_cons_succ, List.getElem_cons_zero, List.setIfInBounds_toArray, List.set_cons_zero, List.set_cons_succ]
      refine AnyBut.take (i := 13) (v := ?v36) rfl (by kernel_rfl) (by kernel_rfl) (by kernel_rfl) (by kernel_rfl) (fun _ _ _ h => h) (HSD.out) (Or.inl ⟨by kernel_rfl, ?hy36⟩) ?r36
      case hy36 =>
        intro w hSw
        try dsimp only at hSw
        go_simp
        try with_reducible rfl
      try simp only [Act.put, List.getElem_toArray, List.getElem_cons_succ, List.getElem_cons_zero, List.setIfInBounds_toArray, List.set_cons_zero, List.set_cons_succ]
      refine AnyBut.one (i := 10) (by kernel_rfl) rfl (fun K hK => ?_)
      refine step_mineI (by rfl) (.tmp 85) (.tmp 94) (by rfl) w8 _ _ (by rfl) HMD10.out _ (ints M) (by rfl) (HSRC.out _ (HMX8.out.on HMD10.out.kept)) (by have := HFS.out; simp only [ints_length, List.length_append, List.length_cons, List.length_nil, bitsN_length]; have := HMI.out; omega) ?_
      intro v12 w12 hm12
      have HM12 := Lib.hid hm12
      obtain ⟨a12, c12, e12⟩ := hm12.slice
      obtain ⟨n12, hn12⟩ : ∃ n, v12 = Value.slice a12 n c12 := ⟨_, e12⟩
      clear e12
      subst hn12
      have K12 := Lib.hid (K8.out.trans hm12.kept)
      have HS12 := Lib.hid (And.intro (HBX.out _ K12.out).1.c (HWB.out _ (K68.out.trans hm12.kept)).c)
      clear hm12
      refine hK.out _ _ (HS12.out) ?_
      clear hK K
      try simp only [Act.put, List.getElem_toArray, List.getElem_cons_succ, List.getElem_cons_zero, List.setIfInBounds_toArray, List.set_cons_zero, List.set_cons_succ]
      refine AnyBut.one (i := 14) (by kernel_rfl) rfl (fun K hK => ?_)
      go_simp
      go_wp2_with fail
      refine (HWITH.out _ K12.out).mono ?_
      rintro e w14 ⟨v14, rfl, hm⟩
      obtain ⟨av14, cv14, ev⟩ := hm.slice
      rw [HLX.out] at ev
      subst ev
      have HV14 := Lib.hid (hm.down K12.out)
      have KM14 := Lib.hid hm.kept
      clear hm
      have HB14 := Lib.hid (HBX.out _ HV14.out.kept)
      have HS14 := Lib.hid (And.intro HB14.out.1.c (HWB.out _ ((K68.out.trans HM12.out.kept).trans KM14.out)).c)
      refine hK.out _ _ (HS14.out) ?_
      clear hK K
      try simp only [Act.put, List.getElem_toArray, List.getElem_cons_succ, List.getElem_cons_zero, List.setIfInBounds_toArray, List.set_cons_zero, List.set_cons_succ]
      refine AnyBut.take (i := 15) (v := ?v37) rfl (by kernel_rfl) (by kernel_rfl) (by kernel_rfl) (by kernel_rfl) (fun _ _ _ h => h) (HS14.out) (Or.inl ⟨by kernel_rfl, ?hy37⟩) ?r37
      case hy37 =>
        intro w hSw
        try dsimp only at hSw
        go_simp
        try with_reducible rfl
      try simp only [Act.put, List.getElem_toArray, List.getElem_cons_succ, List.getElem_cons_zero, List.setIfInBounds_toArray, List.set_cons_zero, List.set_cons_succ]
      refine AnyBut.last (by kernel_rfl) rfl (by kernel_rfl) (fun K hK => ?_)
      obtain ⟨x0, x1, x2⟩ := HB14.out.2.c
      have y0 := HB14.out.2.f 0
      have y1 := HB14.out.2.f 1
      have y2 := HB14.out.2.f 2
      go_simp
      go_wp2
      refine hK.out _ _ ?_
      clear hK K
      try simp only [Act.put, List.getElem_toArray, List.getElem_cons_succ, List.getElem_cons_zero, List.setIfInBounds_toArray, List.set_cons_zero, List.set_cons_succ]
      go_wp2
      refine rput_end Tryd.results38 rfl rfl (HB14.out.2.set (.slice av14 (l.length + 1) cv14) F S) ?_
      have m1 := Mine.set3 ((HM12.out.down K8.out).on KM14.out) HK0.out (q := w.heap.size + 1) (by omega) HQ.out (.slice av14 (l.length + 1) cv14) (.int .i64 (F : Int)) (.int .i64 (S : Int))
      have m2 := HV14.out.set3 HK0.out (q := w.heap.size + 1) (by omega) HQ.out (.slice av14 (l.length + 1) cv14) (.int .i64 (F : Int)) (.int .i64 (S : Int))
      exact ⟨_, _, rfl, m1, m2⟩
end Go.Proofs.YtaagjedkojlbpaaDoor
