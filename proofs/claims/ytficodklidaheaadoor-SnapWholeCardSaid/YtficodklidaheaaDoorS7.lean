/- Layer 18: remove, Remove; a file's first bytes; append onto a file's bytes. -/
import Derived.Test.YtficodklidaheaaDoorS6
namespace Go.Proofs.YtficodklidaheaaDoor
open Go.RowKit
attribute [local go_sem ↓] Go.wp_at_zero Go.wp_at_succ

theorem run_field0 (a : Option Addr) (n c : Nat) (z : Int) (w : World) : (Instr.field 114 (.agg #[.slice a n c, .int .i64 z]) 0).run Tryd.prog w = .ok (.slice a n c) w := by kernel_rfl
theorem usedBox {w w' : World} {db mb : Nat} {D : DA} (h : BoxAt w db 111 (boxD mb D)) {M : List (ByteArray × PF)} {z : Int} (hz : z = (usedL M : Int)) (hw : w' = w.setCell ⟨db, 2, none⟩ (.int .i64 z)) : BoxAt w' db 111 (boxD mb { D with L := M }) := by
  have := h.set 2 (.int .i64 z)
  rw [hw]
  subst hz
  exact this
set_option maxRecDepth 100000 in
set_option maxHeartbeats 2000000 in
theorem dremove_any (base db mb : Nat) (L : List (ByteArray × Fi)) (D : DA) (s : ByteArray) (hs : s.size ≤ maxLen) (w : World) (h : DK base w db mb L D) :
    Calls Tryd.prog 98 #[.pointer (some ⟨db, 0, none⟩), .string s] w fun e w' => e = .returned (.tuple #[]) ∧ DK base w' db mb (delM L s) { D with L := delM D.L s } ∧ Kept (foot db mb L) w w' ∧ Foot w db mb L (delM L s) := by
  have c0 := h.c.1
  have c2 := h.c.2.2.1
  have f2 := h.box.fz 2
  have hl := ((h.kept ((Kept.refl (fun _ => False) w).drew) (fun _ _ x => x)).look hs).1
  have hu := usedL_del h.ok.asc.pair s
  have hcap := h.ok.capR
  have hus := h.ok.used
  obtain ⟨f, hf⟩ : ∃ f, f = lookF L s := ⟨_, rfl⟩
  have hn : szM (getM D.L s) = f.b.length := by
    rw [hf, ← h.get]
    unfold lookF
    cases getM L s <;> rfl
  rw [← hf] at hl
  rw [hn] at hu
  obtain ⟨a, c, b, z⟩ := f
  simp only at hl hu
  obtain ⟨n, hnn⟩ : ∃ n, n = b.length := ⟨_, rfl⟩
  rw [← hnn] at hl hu
  obtain ⟨u, huu⟩ : ∃ u, u = usedL D.L := ⟨_, rfl⟩
  rw [← huu] at c2 hu hus
  have hr1 : n ≤ u := by omega
  have hr2 : u ≤ 4194304 := by omega
  have kS : Kept (fun k => k = db) w (w.setCell ⟨db, 2, none⟩ (.int .i64 ((u : Int) - (n : Int)))).drew := (kept_set w db 2 _).drew
  have hm1 := h.map.kept kS (fun e => h.ne e.symm)
  obtain ⟨w3, hd, hm3, hk3⟩ := hm1.delete Tryd.underlying9 Tryd.underlying109 hs 0
  have HR := Lib.hid (show DK base w3 db mb (delM L s) { D with L := delM D.L s } ∧ Kept (foot db mb L) w w3 ∧ Foot w db mb L (delM L s) from
    h.del (removeF_ok h.ok s) rfl (by
      have := usedBox (M := delM D.L s) (z := (u : Int) - (n : Int)) h.box (by omega) rfl
      exact (this.kept ((Kept.refl (fun _ => False) _).drew) (fun x => x)).kept hk3 h.ne) hm3 ((kS.mono (fun _ _ e => .inl e)).trans (hk3.mono (fun _ _ e => .inr e))))
  have c0' : ((w.setCell ⟨db, 2, none⟩ (.int .i64 ((u : Int) - (n : Int)))).drew).cell? ⟨db, 0, none⟩ = some (.map (some mb)) := by
    have hb := (h.box.set 2 (.int .i64 ((u : Int) - (n : Int)))).kept ((Kept.refl (fun _ => False) _).drew) (fun x => x)
    exact hb.cell rfl
  have hfd := run_field0
  clear h hu hcap hus hf hn hnn huu hm1 hm3 hk3 kS
  go_enter Tryd.func98, Tryd.ntmps98
  go_upto_region 0 with fail
  go_region
  go_wp2
  go_end0
  exact ⟨rfl, HR.out⟩
set_option maxRecDepth 100000 in
set_option maxHeartbeats 2000000 in
theorem dRemove_any (base db mb : Nat) (L : List (ByteArray × Fi)) (D : DA) (s : ByteArray) (hs : s.size ≤ maxLen) (w : World) (h : DK base w db mb L D) :
    Calls Tryd.prog 97 #[.pointer (some ⟨db, 0, none⟩), .string s] w (DTo base w db mb L (removeD D s)) := by
  have HC := Lib.hid (dchangeOf_any base db mb L D s hs w h)
  have HX := Lib.hid (And.intro (fun e : (beginOf D s).2 = 0 => beginOf_zero e) (fun e : (beginOf D s).2 ≠ 0 => beginOf_ne e))
  unfold removeD
  obtain ⟨g, hg⟩ : ∃ g : PF → DA → DA × Int, g = fun _ D => ({ D with L := delM D.L s }, 0) := ⟨_, rfl⟩
  rw [← hg]
  have HG := Lib.hid hg
  obtain ⟨r, hr⟩ : ∃ r, r = beginOf D s := ⟨_, rfl⟩
  rw [← hr] at HC HX
  obtain ⟨D1, z⟩ := r
  have HS := Lib.hid hs
  clear hr hs h hg
  go_enter Tryd.func97, Tryd.ntmps97
  go_wp2_with fail
  refine HC.out.mono ?_
  rintro e w1 ⟨rfl, h1, hk1⟩
  have HD := Lib.hid (And.intro h1 hk1)
  have HM := Lib.hid (dremove_any base db mb L D1 s HS.out w1 h1)
  clear h1 hk1
  by_cases hz : z = 0
  · have q0 : (z != 0) = false := bneF hz
    have HY := Lib.hid (by
      obtain ⟨p, hp, hgp⟩ := HX.out.1 hz
      have := hgp g
      rw [HG.out] at this
      exact this)
    subst hz
    go_wp2_with fail
    refine HM.out.mono ?_
    rintro e w2 ⟨rfl, hx⟩
    have HXX := Lib.hid hx
    clear hx
    go_wp2
    go_ret
    rw [HG.out, HY.out]
    exact DTo.behind HD.out.2 ⟨_, rfl, HXX.out⟩
  · have q0 : (z != 0) = true := bneT hz
    have HY := Lib.hid (HX.out.2 hz)
    clear hz
    go_wp2
    go_ret
    rw [HY.out]
    exact BeganTo.to ⟨rfl, HD.out.1, HD.out.2⟩

theorem run_cut3 {P : Program} {t E : TypeId} {i : TypeInfo} (ht : P.underlying t = some (.slice E)) (hi : P.info? E = some i) (a : Option Addr) (len cap h : Nat) (hhi : h ≤ cap) (w : World) :
    (Instr.slice t (.slice a len cap) none (some (.int .i64 (h : Int))) (some (.int .i64 (h : Int)))).run P w = .ok (.slice a h h) w := by
  have e : (a.map fun x => x.add 0) = a := by cases a <;> simp [add_zero']
  simp [Instr.slice, run_underlying ht, Instr.sliceBounds, Instr.sliceBound, asIntOf, sizeOf, typeInfo, hi, e, hhi]
theorem run_cut3At {P : Program} {t E : TypeId} {i : TypeInfo} (ht : P.underlying t = some (.slice E)) (hi : P.info? E = some i) (a : Option Addr) (len cap h : Nat) (hhi : h ≤ cap) (w : World) :
    (Instr.sliceAt t (.slice a len cap) none (some (.int .i64 (h : Int))) (some (.int .i64 (h : Int)))).run P w = .ok (.slice a h h) w := by
  have he : P.elem t = E := by simp [Program.elem, ht]
  rw [run_sliceAt_slice w t _ _ _ _ (by rw [he]; exact ht)]
  exact run_cut3 ht hi a len cap h hhi w
theorem OwnB.cut {base : Nat} {w : World} {f : Fi} (h : OwnB base w f) {n : Nat} (hn : n ≤ f.b.length) (s : Nat) : OwnB base w ⟨f.a, n, f.b.take n, s⟩ := by
  rcases h with ⟨h1, h2, h3⟩ | ⟨g, cur, h1, h2, h3, h4, h5, h6, h7⟩
  · rw [h2] at hn
    have : n = 0 := by simpa using hn
    subst this
    exact .inl ⟨h1, by simp, rfl⟩
  · refine .inr ⟨g, cur, h1, h2, h3, by simp; omega, by simp only; omega, by simp only; omega, ?_⟩
    have e : (f.b.take n).length = n := by rw [List.length_take]; omega
    simp only [e]
    have := congrArg (List.take n) h7
    rw [List.take_take, Nat.min_eq_left hn] at this
    rw [this]
    unfold byV
    rw [List.map_take]
theorem file_info : (Tryd.prog.info? 114).map (·.size) = some 2 := by kernel_rfl
theorem file_end {fn : Func} {p : Tmp} {a : Act} {P : Ending → World → Prop} {w : World} {q : Nat} {x y : Value} (hres : fn.results = #[.cell p 114]) (hp : a.tmps.getD p undef = .pointer (some ⟨q, 0, none⟩)) (hd : a.defers = [])
    (hg : BoxAt w q 114 #[x, y]) (h : P (.returned (.agg #[x, y])) w) : bodyPost Tryd.prog fn P .ret a w :=
  bodyPost_ret (v := .agg #[x, y]) (results_cell_row hres _ _ q 114 _ (0, 0) _ hp hg Tryd.underlying114 rfl file_info) hd h
set_option maxRecDepth 100000 in
set_option maxHeartbeats 2000000 in
theorem fcut_any (a : Option Addr) (n c z h : Nat) (hh : h ≤ n) (hc : n ≤ c) (w : World) :
    Calls Tryd.prog 70 #[.agg #[.slice a n c, .int .i64 (z : Int)], .int .i64 (h : Int)] w fun e w' => e = .returned (.agg #[.slice a h h, .int .i64 ((min z h : Nat) : Int)]) ∧ Kept (fun _ => False) w w' := by
  obtain ⟨wa, hwa⟩ : ∃ wa, wa = w.alloc (.cells #[.slice a n c, .int .i64 (z : Int)] 114) := ⟨_, rfl⟩
  obtain ⟨q1, hq1⟩ : ∃ q, q = w.heap.size := ⟨_, rfl⟩
  obtain ⟨wb, hwb⟩ : ∃ wb, wb = wa.alloc (.cells #[.slice none 0 0, .int .i64 0] 114) := ⟨_, rfl⟩
  obtain ⟨q2, hq2⟩ : ∃ q, q = wa.heap.size := ⟨_, rfl⟩
  have ka : Kept (fun _ => False) w wa := by rw [hwa]; exact (Kept.refl _ _).alloc _
  have kb : Kept (fun _ => False) wa wb := by rw [hwb]; exact (Kept.refl _ _).alloc _
  have B1 : BoxAt wb q1 114 #[.slice a n c, .int .i64 (z : Int)] := (show BoxAt wa q1 _ _ by rw [hwa, hq1]; exact BoxAt.new w _ _).kept kb (fun x => x)
  have B2 : BoxAt wb q2 114 #[.slice none 0 0, .int .i64 0] := by rw [hwb, hq2]; exact BoxAt.new wa _ _
  have hq2' : q2 = q1 + 1 := by rw [hq2, hwa, hq1]; exact Array.size_push ..
  have HW := Lib.hid (show (w.alloc (.cells #[.slice a n c, .int .i64 (z : Int)] 114)).alloc (.cells #[.slice none 0 0, .int .i64 0] 114) = wb by rw [hwb, hwa])
  have HQ := Lib.hid (And.intro hq1 hq2')
  have HK := Lib.hid (ka.trans kb)
  have b10 : wb.cell? ⟨q1, 0, none⟩ = some (.slice a n c) := B1.cell rfl
  have b11 : wb.cell? ⟨q1, 1, none⟩ = some (.int .i64 (z : Int)) := B1.cell rfl
  have b20 : wb.cell? ⟨q2, 0, none⟩ = some (.slice none 0 0) := B2.cell rfl
  have b21 : wb.cell? ⟨q2, 1, none⟩ = some (.int .i64 0) := B2.cell rfl
  have g0 := B2.fz 0
  have g1 := B2.fz 1
  obtain ⟨iI, hiI, hzI0, hzI1, hzI2⟩ := info_parts Tryd.infoU8
  have hcut := fun w => run_cut3 (P := Tryd.prog) Tryd.underlying22 hiI a n c h (by omega) w
  have hcutA := fun w => run_cut3At (P := Tryd.prog) Tryd.underlying22 hiI a n c h (by omega) w
  have HB2 := Lib.hid B2
  clear hwa hwb hq1 hq2 hq2' ka kb B1 B2 hiI hzI0 hzI1 hzI2 hh hc
  go_enter Tryd.func70, Tryd.ntmps70
  go_upto_region 1 with fail
  rw [HW.out, ← HQ.out.1, ← HQ.out.2]
  go_region
  go_wp2
  refine file_end Tryd.results70 rfl rfl ((HB2.out.set 0 (.slice a h h)).set 1 (.int .i64 (min (z : Int) (h : Int)))) ?_
  have e : (min (z : Int) (h : Int)) = ((min z h : Nat) : Int) := by omega
  refine ⟨by rw [e], HK.out.step (S' := fun k => k = q2) (((kept_set _ q2 0 _).trans (kept_set _ q2 1 _)).drew) (fun k hk x => ?_)⟩
  have := HQ.out
  omega
end Go.Proofs.YtficodklidaheaaDoor
