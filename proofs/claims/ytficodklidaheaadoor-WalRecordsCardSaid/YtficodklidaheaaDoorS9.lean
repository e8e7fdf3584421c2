/- Layer 18: Cut. -/
import Derived.Test.YtficodklidaheaaDoorS7
import Derived.Deep.RegionWith
namespace Go.Proofs.YtficodklidaheaaDoor
open Go.RowKit
attribute [local go_sem ↓] Go.wp_at_zero Go.wp_at_succ

set_option maxRecDepth 100000 in
set_option maxHeartbeats 4000000 in
theorem dCut_any (base db mb : Nat) (L : List (ByteArray × Fi)) (D : DA) (s : ByteArray) (hs : s.size ≤ maxLen) (m : Int) (w : World) (h : DK base w db mb L D) :
    Calls Tryd.prog 67 #[.pointer (some ⟨db, 0, none⟩), .string s, .int .i64 m] w (DTo base w db mb L (cutD D s m)) := by
  have HC := Lib.hid (dchangeOf_any base db mb L D s hs w h)
  have HX := Lib.hid (And.intro (fun e : (beginOf D s).2 = 0 => beginOf_zero e) (fun e : (beginOf D s).2 ≠ 0 => beginOf_ne e))
  have hok := cutD_ok h.ok s m
  unfold cutD at hok ⊢
  obtain ⟨g, hg⟩ : ∃ g : PF → DA → DA × Int, g = fun f D => if m < 0 ∨ (f.b.length : Int) < m then (D, 1) else ({ D with L := putS D.L s (cutF f m.toNat) }, 0) := ⟨_, rfl⟩
  rw [← hg] at hok ⊢
  have HG := Lib.hid (And.intro hg hok)
  obtain ⟨r, hr⟩ : ∃ r, r = beginOf D s := ⟨_, rfl⟩
  rw [← hr] at HC HX
  obtain ⟨D1, z⟩ := r
  have HS := Lib.hid hs
  clear hr hs h hg hok
  go_enter Tryd.func67, Tryd.ntmps67
  go_wp2_with fail
  refine HC.out.mono ?_
  rintro e w1 ⟨rfl, h1, hk1⟩
  have HD := Lib.hid (And.intro h1 hk1)
  clear h1 hk1
  by_cases hz : z = 0
  · have q0 : (z != 0) = false := bneF hz
    obtain ⟨p, hp, hgp⟩ := HX.out.1 hz
    have hy := hgp g
    have hok := HG.out.2
    rw [hy, HG.out.1] at hok
    have HY := Lib.hid (And.intro hy hok)
    subst hz
    have h1 := HD.out.1
    have hg1 := h1.get s
    rw [hp] at hg1
    cases hf : getM L s with
    | none => rw [hf] at hg1; cases hg1
    | some f =>
      obtain ⟨a, c, b, y⟩ := f
      have hpb : p = ⟨b, y⟩ := by
        rw [hf] at hg1
        simp only [Option.map_some, Fi.t, Option.some.injEq] at hg1
        exact hg1.symm
      have HPB := Lib.hid hpb
      obtain ⟨c0, _, c2, _⟩ := h1.c
      obtain ⟨u, hu0⟩ : ∃ u, u = usedL D1.L := ⟨_, rfl⟩
      have hcap := h1.ok.capR
      have hus := h1.ok.used
      rw [← hu0] at c2 hus
      have hub : b.length ≤ u := by
        have h3 := usedL_del h1.ok.asc.pair s
        rw [hp, hpb] at h3
        simp only [szM] at h3
        omega
      have hu9 : u ≤ 4194304 := by omega
      have HU := Lib.hid hu0
      have HF := Lib.hid hf
      have hl := (h1.look HS.out).1
      rw [lookF_some hf] at hl
      simp only at hl
      have hcc := (h1.data _ (getM_mem hf)).cap.1
      simp only at hcc
      obtain ⟨n, hn⟩ : ∃ n, n = b.length := ⟨_, rfl⟩
      have HN := Lib.hid hn
      rw [← hn] at hl hub hcc
      obtain ⟨q, hq⟩ : ∃ q, q = w1.heap.size := ⟨_, rfl⟩
      obtain ⟨wa, hwa⟩ : ∃ wa, wa = w1.alloc (.cells #[.slice a n c, .int .i64 (y : Int)] 114) := ⟨_, rfl⟩
      have ka : Kept (fun _ => False) w1 wa := by rw [hwa]; exact (Kept.refl _ _).alloc _
      have BA : BoxAt wa q 114 #[.slice a n c, .int .i64 (y : Int)] := by rw [hwa, hq]; exact BoxAt.new w1 _ _
      have ha := h1.kept ka (fun _ _ x => x)
      have hkw : Kept (fun k => k = db) w wa := HD.out.2.trans (ka.mono (fun _ _ x => x.elim))
      have HA := Lib.hid (And.intro ha hkw)
      have HBA := Lib.hid BA
      have HW := Lib.hid (And.intro hwa hq)
      have qA0 : wa.cell? ⟨q, 0, none⟩ = some (.slice a n c) := BA.cell rfl
      have qA1 : wa.cell? ⟨q, 1, none⟩ = some (.int .i64 (y : Int)) := BA.cell rfl
      by_cases hm : m < 0 ∨ (n : Int) < m
      · have HE : Hid (behindD D (withF s g) = (D1, 1)) := Lib.hid (by
          rw [HY.out.1, HG.out.1]
          show (if m < 0 ∨ (p.b.length : Int) < m then _ else _) = _
          rw [if_pos (by rw [HPB.out]; simp only; rw [← HN.out]; exact hm)])
        clear hp hgp hy hok h1 hg1 hf hpb hu0 hub hcap hus ka BA ha hkw hn hwa hq hcc
        rcases hm with hm | hm
        · have hm1 : decide (m < 0) = true := decide_eq_true hm
          go_wp2
          go_ret
          rw [HE.out]
          rw [← HW.out.1]
          exact BeganTo.to ⟨rfl, HA.out.1, HA.out.2⟩
        · have hm1 : decide (m < 0) = false := decide_eq_false (by omega)
          have hm2 : decide ((n : Int) < m) = true := decide_eq_true hm
          have hm3 : ¬ m < 0 := by omega
          go_upto_region 5 with fail
          rw [← HW.out.1, ← HW.out.2]
          go_wp2
          go_ret
          rw [HE.out]
          exact BeganTo.to ⟨rfl, HA.out.1, HA.out.2⟩
      · obtain ⟨v, hv⟩ : ∃ v : Nat, m = (v : Int) := ⟨m.toNat, by omega⟩
        subst hv
        have hvn : v ≤ n := by omega
        have HE : Hid (behindD D (withF s g) = ({ D1 with L := putS D1.L s ⟨b.take v, min y v⟩ }, 0) ∧ DOk { D1 with L := putS D1.L s ⟨b.take v, min y v⟩ }) := Lib.hid (by
          have e := HY.out.1
          rw [HG.out.1] at e
          have e' : (if (v : Int) < 0 ∨ (p.b.length : Int) < (v : Int) then (D1, (1 : Int)) else ({ D1 with L := putS D1.L s (cutF p (v : Int).toNat) }, 0)) = ({ D1 with L := putS D1.L s ⟨b.take v, min y v⟩ }, 0) := by
            rw [if_neg (by rw [HPB.out]; simp only; rw [← HN.out]; omega), HPB.out]
            rfl
          refine ⟨by rw [HG.out.1]; exact e.trans e', ?_⟩
          have hh := congrArg Prod.fst e'
          simp only at hh
          rw [← hh]
          exact HY.out.2)
        have hm1 : ¬ (v : Int) < 0 := by omega
        have hm2 : ¬ (n : Int) < (v : Int) := by omega
        have hm2' : decide (n < v) = false := decide_eq_false (by omega)
        have cA2 : wa.cell? ⟨db, 2, none⟩ = some (.int .i64 (u : Int)) := by rw [HU.out]; exact ha.c.2.2.1
        have fA2 := ha.box.fz 2
        obtain ⟨w7, hw7⟩ : ∃ w7, w7 = (wa.setCell ⟨db, 2, none⟩ (.int .i64 ((u : Int) - ((n : Int) - (v : Int))))).drew := ⟨_, rfl⟩
        have k7 : Kept (fun k => k = db) wa w7 := by rw [hw7]; exact (kept_set wa db 2 _).drew
        have b7 : BoxAt w7 db 111 (boxD mb { D1 with L := putS D1.L s ⟨b.take v, min y v⟩ }) := by
          rw [hw7]
          have e := usedL_put ha.ok.asc.pair s ⟨b.take v, min y v⟩
          have hg2 := ha.get s
          rw [hf] at hg2
          rw [← hg2] at e
          simp only [Option.map_some, szM, Fi.t, List.length_take] at e
          exact (usedBox (M := putS D1.L s ⟨b.take v, min y v⟩) ha.box (by omega) rfl).kept ((Kept.refl (fun _ => False) _).drew) (fun x => x)
        have q7 : BoxAt w7 q 114 #[.slice a n c, .int .i64 (y : Int)] := BA.kept k7 (fun e => by have := h1.box.lt; omega)
        have m7 := ha.map.kept k7 (fun e => ha.ne e.symm)
        have H7 := Lib.hid (And.intro (And.intro k7 b7) (And.intro q7 m7))
        have HW7 := Lib.hid hw7
        have c70 : w7.cell? ⟨db, 0, none⟩ = some (.map (some mb)) := b7.cell rfl
        have q70 : w7.cell? ⟨q, 0, none⟩ = some (.slice a n c) := q7.cell rfl
        have q71 : w7.cell? ⟨q, 1, none⟩ = some (.int .i64 (y : Int)) := q7.cell rfl
        have HFC := Lib.hid (fcut_any a n c y v hvn hcc w7.drew)
        have HVN := Lib.hid hvn
        clear hp hgp hy hok h1 hg1 hf hpb hu0 hcap hus ka BA ha hkw hn hwa hq hcc hw7 k7 b7 q7 m7 hm
        go_upto_region 7 with fail
        rw [← HW.out.1, ← HW.out.2]
        go_region
        rw [← HW7.out]
        go_upto_region 8 with fail
        go_region_with (go_at_call 70; refine HFC.out.mono ?_; rintro e w4 ⟨rfl, hk4⟩; have hk4' := (Kept.refl (fun _ => False) w7).drew.trans hk4; have c40 : w4.cell? ⟨db, 0, none⟩ = some (.map (some mb)) := (H7.out.1.2.kept hk4' (fun x => x)).cell rfl; obtain ⟨w5, hu5, hm5, hk5⟩ := (H7.out.2.2.kept hk4' (fun x => x)).update Tryd.underlying9 Tryd.underlying109 HS.out (⟨a, v, b.take v, min y v⟩ : Fi).val (by have := HA.out.1.ok.count; have := HA.out.1.len; unfold mapM maxLen; rw [List.length_map]; omega); have HK4 := Lib.hid (And.intro hk4' (And.intro hm5 hk5)); replace hu5 : (Instr.mapUpdate 109 (.map (some mb)) (.string s) (.agg #[.slice a v v, .int .i64 ((min y v : Nat) : Int)])).run Tryd.prog w4 = .ok () w5 := (by have e : (b.take v).length = v := (by rw [List.length_take]; have := HVN.out; have := HN.out; omega); unfold Fi.val at hu5; simp only [e] at hu5; exact hu5); clear hk4 hk4' hm5 hk5)
        all_goals (
          go_wp2
          go_ret
          rw [HE.out.1]
          obtain ⟨⟨k7, b7⟩, q7, m7⟩ := H7.out
          obtain ⟨k4, m5, k5⟩ := HK4.out
          have hfm := getM_mem HF.out
          have hvb : v ≤ b.length := by rw [← HN.out]; exact HVN.out
          have hbl : ∀ k, (⟨a, c, b, y⟩ : Fi).v.ownBlock = some k → k ≠ db ∧ k ≠ mb := fun k e => HA.out.1.noBox hfm e
          have kk : Kept (fun k => k = db ∨ k = mb) wa w5 := ((k7.mono (fun _ _ e => .inl e)).trans (k4.mono (fun _ _ x => x.elim))).trans (k5.mono (fun _ _ e => .inr e))
          have ho : OwnB base w5 (⟨a, v, b.take v, min y v⟩ : Fi) := ((HA.out.1.data _ hfm).cut (n := v) hvb (min y v)).kept kk (fun j e x => by
            have e' : (⟨a, c, b, y⟩ : Fi).v.ownBlock = some j := by unfold Fi.v at e ⊢; cases a <;> exact e
            obtain ⟨n1, n2⟩ := hbl j e'
            rcases x with x | x
            · exact n1 x
            · exact n2 x)
          exact DTo.behind HA.out.2 ⟨_, rfl, HA.out.1.put (s := s) (f := ⟨a, v, b.take v, min y v⟩) HE.out.2 rfl ((b7.kept k4 (fun x => x)).kept k5 HA.out.1.ne) m5 ho (kk.mono (fun k _ e => by
            rcases e with e | e
            · exact .inl e
            · exact .inr (.inl e))) (fun k e => .inl (by
              rw [lookF_some HF.out]
              unfold Fi.v at e ⊢
              cases a <;> exact e))⟩)
  · have q0 : (z != 0) = true := bneT hz
    have HY := Lib.hid (HX.out.2 hz)
    clear hz
    go_wp2
    go_ret
    rw [HY.out]
    exact BeganTo.to ⟨rfl, HD.out.1, HD.out.2⟩
end Go.Proofs.YtficodklidaheaaDoor
