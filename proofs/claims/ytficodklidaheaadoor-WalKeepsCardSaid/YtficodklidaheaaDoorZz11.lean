/- Texts put together: S9, WF, IterLay, S2. -/
import Derived.Test.YtficodklidaheaaDoorZz10
import Derived.Deep.RegionWith
import Derived.Shelf.SlIter.Nil
import Derived.Shelf.SortM.Plain
import Derived.Shelf.SortM.SortNone
import Derived.Ground.GgzProg
import Derived.Ground.SlgmProg
import Derived.Test.YtficodklidaheaaDoorProg
import Derived.Test.YtficodklidaheaaDoorZz7
import Derived.Sort.KeysCollected
import Derived.CallsIn
/- Layer 18: Cut. -/
namespace Go.Proofs.YtficodklidaheaaDoor
open Go.RowKit
attribute [local go_sem ↓] Go.wp_at_zero Go.wp_at_succ

set_option maxRecDepth 100000 in
set_option maxHeartbeats 4000000 in
theorem dCut_any (base db mb : Nat) (L : List (ByteArray × Fi)) (D : DA) (s : ByteArray) (hs : s.size ≤ maxLen) (m : Int) (w : World) (h : DK base w db mb L D) :
    Calls Tryd.prog 67 #[.pointer (some ⟨db, 0, none⟩), .string s, .int .i64 m] w (DTo base w db mb L (cutD D s m)) := by
  have HC := Lib.hid (dchangeOf_any base db mb L D s hs w h)
  have HX := Lib.hid (And.intro (fun e : (beginOf D s).2 = 0 => beginOf_zero e) (fun e : (beginOf D s).2 ≠ 0 => beginOf_ne e))
  have hok := cutD_ok h.ok s m
  unfold cutD at hok ⊢
  obtain ⟨g, hg⟩ : ∃ g : PF → DA → DA × Int, g = fun f D => if m < 0 ∨ (f.b.length : Int) < m then (D, 1) else ({ D with L := putS D.L s (cutF f m.toNat) }, 0) := ⟨_, rfl⟩
  rw [← hg] at hok ⊢
  have HG := Lib.hid (And.intro hg hok)
  obtain ⟨r, hr⟩ : ∃ r, r = beginOf D s := ⟨_, rfl⟩
  rw [← hr] at HC HX
  obtain ⟨D1, z⟩ := r
  have HS := Lib.hid hs
  clear hr hs h hg hok
  go_enter Tryd.func67, Tryd.ntmps67
  go_wp2_with fail
  refine HC.out.mono ?_
  rintro e w1 ⟨rfl, h1, hk1⟩
  have HD := Lib.hid (And.intro h1 hk1)
  clear h1 hk1
  by_cases hz : z = 0
  · have q0 : (z != 0) = false := bneF hz
    obtain ⟨p, hp, hgp⟩ := HX.out.1 hz
    have hy := hgp g
    have hok := HG.out.2
    rw [hy, HG.out.1] at hok
    have HY := Lib.hid (And.intro hy hok)
    subst hz
    have h1 := HD.out.1
    have hg1 := h1.get s
    rw [hp] at hg1
    cases hf : getM L s with
    | none => rw [hf] at hg1; cases hg1
    | some f =>
      obtain ⟨a, c, b, y⟩ := f
      have hpb : p = ⟨b, y⟩ := by
        rw [hf] at hg1
        simp only [Option.map_some, Fi.t, Option.some.injEq] at hg1
        exact hg1.symm
      have HPB := Lib.hid hpb
      obtain ⟨c0, _, c2, _⟩ := h1.c
      obtain ⟨u, hu0⟩ : ∃ u, u = usedL D1.L := ⟨_, rfl⟩
      have hcap := h1.ok.capR
      have hus := h1.ok.used
      rw [← hu0] at c2 hus
      have hub : b.length ≤ u := by
        have h3 := usedL_del h1.ok.asc.pair s
        rw [hp, hpb] at h3
        simp only [szM] at h3
        omega
      have hu9 : u ≤ 4194304 := by omega
      have HU := Lib.hid hu0
      have HF := Lib.hid hf
      have hl := (h1.look HS.out).1
      rw [lookF_some hf] at hl
      simp only at hl
      have hcc := (h1.data _ (getM_mem hf)).cap.1
      simp only at hcc
      obtain ⟨n, hn⟩ : ∃ n, n = b.length := ⟨_, rfl⟩
      have HN := Lib.hid hn
      rw [← hn] at hl hub hcc
      obtain ⟨q, hq⟩ : ∃ q, q = w1.heap.size := ⟨_, rfl⟩
      obtain ⟨wa, hwa⟩ : ∃ wa, wa = w1.alloc (.cells #[.slice a n c, .int .i64 (y : Int)] 114) := ⟨_, rfl⟩
      have ka : Kept (fun _ => False) w1 wa := by rw [hwa]; exact (Kept.refl _ _).alloc _
      have BA : BoxAt wa q 114 #[.slice a n c, .int .i64 (y : Int)] := by rw [hwa, hq]; exact BoxAt.new w1 _ _
      have ha := h1.kept ka (fun _ _ x => x)
      have hkw : Kept (fun k => k = db) w wa := HD.out.2.trans (ka.mono (fun _ _ x => x.elim))
      have HA := Lib.hid (And.intro ha hkw)
      have HBA := Lib.hid BA
      have HW := Lib.hid (And.intro hwa hq)
      have qA0 : wa.cell? ⟨q, 0, none⟩ = some (.slice a n c) := BA.cell rfl
      have qA1 : wa.cell? ⟨q, 1, none⟩ = some (.int .i64 (y : Int)) := BA.cell rfl
      by_cases hm : m < 0 ∨ (n : Int) < m
      · have HE : Hid (behindD D (withF s g) = (D1, 1)) := Lib.hid (by
          rw [HY.out.1, HG.out.1]
          show (if m < 0 ∨ (p.b.length : Int) < m then _ else _) = _
          rw [if_pos (by rw [HPB.out]; simp only; rw [← HN.out]; exact hm)])
        clear hp hgp hy hok h1 hg1 hf hpb hu0 hub hcap hus ka BA ha hkw hn hwa hq hcc
        rcases hm with hm | hm
        · have hm1 : decide (m < 0) = true := decide_eq_true hm
          go_wp2
          go_ret
          rw [HE.out]
          rw [← HW.out.1]
          exact BeganTo.to ⟨rfl, HA.out.1, HA.out.2⟩
        · have hm1 : decide (m < 0) = false := decide_eq_false (by omega)
          have hm2 : decide ((n : Int) < m) = true := decide_eq_true hm
          have hm3 : ¬ m < 0 := by omega
          go_upto_region 5 with fail
          rw [← HW.out.1, ← HW.out.2]
          go_wp2
          go_ret
          rw [HE.out]
          exact BeganTo.to ⟨rfl, HA.out.1, HA.out.2⟩
      · obtain ⟨v, hv⟩ : ∃ v : Nat, m = (v : Int) := ⟨m.toNat, by omega⟩
        subst hv
        have hvn : v ≤ n := by omega
        have HE : Hid (behindD D (withF s g) = ({ D1 with L := putS D1.L s ⟨b.take v, min y v⟩ }, 0) ∧ DOk { D1 with L := putS D1.L s ⟨b.take v, min y v⟩ }) := Lib.hid (by
          have e := HY.out.1
          rw [HG.out.1] at e
          have e' : (if (v : Int) < 0 ∨ (p.b.length : Int) < (v : Int) then (D1, (1 : Int)) else ({ D1 with L := putS D1.L s (cutF p (v : Int).toNat) }, 0)) = ({ D1 with L := putS D1.L s ⟨b.take v, min y v⟩ }, 0) := by
            rw [if_neg (by rw [HPB.out]; simp only; rw [← HN.out]; omega), HPB.out]
            rfl
          refine ⟨by rw [HG.out.1]; exact e.trans e', ?_⟩
          have hh := congrArg Prod.fst e'
          simp only at hh
          rw [← hh]
          exact HY.out.2)
        have hm1 : ¬ (v : Int) < 0 := by omega
        have hm2 : ¬ (n : Int) < (v : Int) := by omega
        have hm2' : decide (n < v) = false := decide_eq_false (by omega)
        have cA2 : wa.cell? ⟨db, 2, none⟩ = some (.int .i64 (u : Int)) := by rw [HU.out]; exact ha.c.2.2.1
        have fA2 := ha.box.fz 2
        obtain ⟨w7, hw7⟩ : ∃ w7, w7 = (wa.setCell ⟨db, 2, none⟩ (.int .i64 ((u : Int) - ((n : Int) - (v : Int))))).drew := ⟨_, rfl⟩
        have k7 : Kept (fun k => k = db) wa w7 := by rw [hw7]; exact (kept_set wa db 2 _).drew
        have b7 : BoxAt w7 db 111 (boxD mb { D1 with L := putS D1.L s ⟨b.take v, min y v⟩ }) := by
          rw [hw7]
          have e := usedL_put ha.ok.asc.pair s ⟨b.take v, min y v⟩
          have hg2 := ha.get s
          rw [hf] at hg2
          rw [← hg2] at e
          simp only [Option.map_some, szM, Fi.t, List.length_take] at e
          exact (usedBox (M := putS D1.L s ⟨b.take v, min y v⟩) ha.box (by omega) rfl).kept ((Kept.refl (fun _ => False) _).drew) (fun x => x)
        have q7 : BoxAt w7 q 114 #[.slice a n c, .int .i64 (y : Int)] := BA.kept k7 (fun e => by have := h1.box.lt; omega)
        have m7 := ha.map.kept k7 (fun e => ha.ne e.symm)
        have H7 := Lib.hid (And.intro (And.intro k7 b7) (And.intro q7 m7))
        have HW7 := Lib.hid hw7
        have c70 : w7.cell? ⟨db, 0, none⟩ = some (.map (some mb)) := b7.cell rfl
        have q70 : w7.cell? ⟨q, 0, none⟩ = some (.slice a n c) := q7.cell rfl
        have q71 : w7.cell? ⟨q, 1, none⟩ = some (.int .i64 (y : Int)) := q7.cell rfl
        have HFC := Lib.hid (fcut_any a n c y v hvn hcc w7.drew)
        have HVN := Lib.hid hvn
        clear hp hgp hy hok h1 hg1 hf hpb hu0 hcap hus ka BA ha hkw hn hwa hq hcc hw7 k7 b7 q7 m7 hm
        go_upto_region 7 with fail
        rw [← HW.out.1, ← HW.out.2]
        go_region
        rw [← HW7.out]
        go_upto_region 8 with fail
        go_region_with (go_at_call 70; refine HFC.out.mono ?_; rintro e w4 ⟨rfl, hk4⟩; have hk4' := (Kept.refl (fun _ => False) w7).drew.trans hk4; have c40 : w4.cell? ⟨db, 0, none⟩ = some (.map (some mb)) := (H7.out.1.2.kept hk4' (fun x => x)).cell rfl; obtain ⟨w5, hu5, hm5, hk5⟩ := (H7.out.2.2.kept hk4' (fun x => x)).update Tryd.underlying9 Tryd.underlying109 HS.out (⟨a, v, b.take v, min y v⟩ : Fi).val (by have := HA.out.1.ok.count; have := HA.out.1.len; unfold mapM maxLen; rw [List.length_map]; omega); have HK4 := Lib.hid (And.intro hk4' (And.intro hm5 hk5)); replace hu5 : (Instr.mapUpdate 109 (.map (some mb)) (.string s) (.agg #[.slice a v v, .int .i64 ((min y v : Nat) : Int)])).run Tryd.prog w4 = .ok () w5 := (by have e : (b.take v).length = v := (by rw [List.length_take]; have := HVN.out; have := HN.out; omega); unfold Fi.val at hu5; simp only [e] at hu5; exact hu5); clear hk4 hk4' hm5 hk5)
        all_goals (
          go_wp2
          go_ret
          rw [HE.out.1]
          obtain ⟨⟨k7, b7⟩, q7, m7⟩ := H7.out
          obtain ⟨k4, m5, k5⟩ := HK4.out
          have hfm := getM_mem HF.out
          have hvb : v ≤ b.length := by rw [← HN.out]; exact HVN.out
          have hbl : ∀ k, (⟨a, c, b, y⟩ : Fi).v.ownBlock = some k → k ≠ db ∧ k ≠ mb := fun k e => HA.out.1.noBox hfm e
          have kk : Kept (fun k => k = db ∨ k = mb) wa w5 := ((k7.mono (fun _ _ e => .inl e)).trans (k4.mono (fun _ _ x => x.elim))).trans (k5.mono (fun _ _ e => .inr e))
          have ho : OwnB base w5 (⟨a, v, b.take v, min y v⟩ : Fi) := ((HA.out.1.data _ hfm).cut (n := v) hvb (min y v)).kept kk (fun j e x => by
            have e' : (⟨a, c, b, y⟩ : Fi).v.ownBlock = some j := by unfold Fi.v at e ⊢; cases a <;> exact e
            obtain ⟨n1, n2⟩ := hbl j e'
            rcases x with x | x
            · exact n1 x
            · exact n2 x)
          exact DTo.behind HA.out.2 ⟨_, rfl, HA.out.1.put (s := s) (f := ⟨a, v, b.take v, min y v⟩) HE.out.2 rfl ((b7.kept k4 (fun x => x)).kept k5 HA.out.1.ne) m5 ho (kk.mono (fun k _ e => by
            rcases e with e | e
            · exact .inl e
            · exact .inr (.inl e))) (fun k e => .inl (by
              rw [lookF_some HF.out]
              unfold Fi.v at e ⊢
              cases a <;> exact e))⟩)
  · have q0 : (z != 0) = true := bneT hz
    have HY := Lib.hid (HX.out.2 hz)
    clear hz
    go_wp2
    go_ret
    rw [HY.out]
    exact BeganTo.to ⟨rfl, HD.out.1, HD.out.2⟩
end Go.Proofs.YtficodklidaheaaDoor
/- Layer 19: Open. -/
namespace Go.Proofs.YtficodklidaheaaDoor
open Go.RowKit
attribute [local go_sem ↓] Go.wp_at_zero Go.wp_at_succ

/-- What Open answers when it is well. -/
def OpenTo (base : Nat) (w : World) (db mb : Nat) (L : List (ByteArray × Fi)) (s : ByteArray) (D' : DA) (Ls : List (List Nat)) (u : Nat) (e : Ending) (w' : World) : Prop :=
  ∃ L' lb v B H, e = .returned (.tuple #[.pointer (some ⟨lb, 0, none⟩), v, .int .i64 0]) ∧ DK base w' db mb L' D' ∧ Kept (foot db mb L) w w' ∧ Foot w db mb L L' ∧ LogAt w' lb db s (Ls.length : Int) (u : Int) ∧
    w.heap.size ≤ B ∧ w.heap.size ≤ lb ∧ H ≤ lb ∧ GotRows w' B H v Ls ∧ ∀ k, foot db mb L' k → k < B ∨ H ≤ k
theorem OpenTo.mk {base : Nat} {w w3 : World} {db mb : Nat} {L L' : List (ByteArray × Fi)} {D' : DA} (s : ByteArray) {Ls : List (List Nat)} {u : Nat} {v : Value} {B H : Nat} (h : DK base w3 db mb L' D') (k : Kept (foot db mb L) w w3) (f : Foot w db mb L L') (hB : w.heap.size ≤ B) (hH : H ≤ w3.heap.size) (hg : GotRows w3 B H v Ls) (hf : ∀ k, foot db mb L' k → k < B ∨ H ≤ k) :
    OpenTo base w db mb L s D' Ls u (.returned (.tuple #[.pointer (some ⟨w3.heap.size, 0, none⟩), v, .int .i64 0])) (w3.alloc (.cells #[.pointer (some ⟨db, 0, none⟩), .string s, .int .i64 (Ls.length : Int), .int .i64 (u : Int)] 117)) := by
  have ka : Kept (fun _ => False) w3 (w3.alloc (.cells #[.pointer (some ⟨db, 0, none⟩), .string s, .int .i64 (Ls.length : Int), .int .i64 (u : Int)] 117)) := (Kept.refl _ _).alloc _
  exact ⟨L', _, v, B, H, rfl, h.kept ka (fun _ _ x => x), k.trans (ka.mono (fun _ _ x => x.elim)), f, BoxAt.new _ _ _, hB, k.size, hH, hg.kept ka (fun _ _ _ x => x), hf⟩
theorem own_capB {w : World} {B : Nat} {E : TypeId} {ao : Option Addr} {n m c z : Nat} {xs : List Value} (h : w.ownsRow B E z (.slice ao n c) m xs) : n ≤ c := by
  rcases h.2 with ⟨e, h0⟩ | ⟨g, cap, cur, e, _, _, hc, _⟩
  · injection e with _ h1 h2
    omega
  · injection e with _ e2 e3
    subst e2 e3
    exact hc
set_option maxRecDepth 100000 in
set_option maxHeartbeats 4000000 in
theorem wOpen_there (base db mb : Nat) (L : List (ByteArray × Fi)) (D : DA) (s : ByteArray) (hs : s.size ≤ maxLen) (f : PF) (Ls : List (List Nat)) (u n : Nat) (w : World) (h : DK base w db mb L D) (hd : D.down = false) (hf : getM D.L s = some f) (hfl : f.b.length ≤ 1000000000) (hsc : ScanR f.b Ls u n) (hn : n = 0 ∨ n = 2) (hc : u < f.b.length → (cutD D s u).2 = 0) (HN : Nibs w) :
    Calls Tryd.prog 24 #[.pointer (some ⟨db, 0, none⟩), .string s] w (OpenTo base w db mb L s (if u < f.b.length then (cutD D s u).1 else D) Ls u) := by
  have hre : readA D s = (f.b, 0) := by unfold readA; rw [hd, hf]; rfl
  have HRD := Lib.hid (dRead_any base db mb L D s hs w h)
  have hfb : ∀ x ∈ f.b, x < 256 := h.ok.byte (s, f) (getM_mem hf)
  have HSC := Lib.hid (And.intro hsc (And.intro hn (And.intro hfb (And.intro hc hs))))
  have hub := (hsc.lt hfb).2
  have HU := Lib.hid hub
  rw [hre] at HRD
  have HH := Lib.hid (And.intro h HN)
  obtain ⟨D', hD'⟩ : ∃ D', D' = (if u < f.b.length then (cutD D s u).1 else D) := ⟨_, rfl⟩
  rw [← hD']
  obtain ⟨m, hm⟩ : ∃ m, m = f.b.length := ⟨_, rfl⟩
  have HM := Lib.hid (And.intro hm hfl)
  rw [← hm] at hD'
  have HDD := Lib.hid hD'
  have hlen := hsc
  clear h hd hf hfl hsc hn hc HN hfb hre hlen hD'
  go_enter Tryd.func24, Tryd.ntmps24
  go_wp2_with fail
  refine HRD.out.mono ?_
  rintro e w1 ⟨a, c, rfl, hmi⟩
  have hcap := own_capB hmi.own
  have hrow := slAt_row8 hmi.at_ HSC.out.2.2.1
  have HREC := Lib.hid (wRecords_any a c f.b HM.out.2 hcap w1 hrow (HH.out.2.kept hmi.kept))
  have HK1 := Lib.hid hmi.kept
  dsimp only
  rw [← HM.out.1] at HREC ⊢
  clear hmi hcap hrow hm
  go_wp2_with fail
  refine HREC.out.mono ?_
  rintro e w2 ⟨Ls2, u2, n2, hsc2, k2, ⟨hn2, v, rfl, hg⟩ | ⟨hn2, rfl⟩⟩
  · obtain ⟨rfl, rfl, rfl⟩ := hsc2.fn HSC.out.1
    have HG := Lib.hid hg
    have HK2 := Lib.hid (HK1.out.trans k2)
    have HSZ := Lib.hid k2.size
    obtain ⟨va, vc, hv, _⟩ := hg
    subst hv
    obtain ⟨q, hq⟩ : ∃ q, q = Ls2.length := ⟨_, rfl⟩
    rw [← hq] at HG ⊢
    have HQ := Lib.hid hq
    have HDK := Lib.hid (HH.out.1.kept HK2.out (fun _ _ x => x))
    have HLT := Lib.hid (fun k (x : foot db mb L k) => (HH.out.1.lt x).1)
    clear hsc2 k2 hn2 hq
    by_cases hu : u2 < m
    · have q1 : (u2 : Int) < (m : Int) := by omega
      have HC := Lib.hid (dCut_any base db mb L D s HSC.out.2.2.2.2 (u2 : Int) w2 HDK.out)
      have hz := HSC.out.2.2.2.1 (by rw [← HM.out.1]; exact hu)
      obtain ⟨r, hr⟩ : ∃ r, r = cutD D s (u2 : Int) := ⟨_, rfl⟩
      have HDR : Hid (D' = r.1) := Lib.hid (by rw [HDD.out, if_pos hu, hr])
      rw [← hr] at HC hz
      have HZ := Lib.hid hz
      clear hr hz hu hub
      go_wp2_with fail
      refine HC.out.mono ?_
      rintro e w3 ⟨L', rfl, h3, k3, f3⟩
      rw [HZ.out]
      have HX := Lib.hid (OpenTo.mk (w := w) (v := .slice va q vc) (u := u2) (B := w1.heap.size) (H := w2.heap.size) (Ls := Ls2) s h3 ((HK2.out.mono (fun _ _ x => x.elim)).trans k3) (fun k x => (f3 k x).imp id (Nat.le_trans HK2.out.size)) HK1.out.size k3.size (HG.out.kept k3 (fun j h1 h2 x => by have := HLT.out j x; have := HK1.out.size; omega)) (fun k x => (f3 k x).imp (fun y => by have := HLT.out k y; have := HK1.out.size; omega) id))
      rw [← HQ.out, ← HDR.out] at HX
      clear h3 k3 f3
      go_wp2
      go_ret3
      exact HX.out
    · have q1 : ¬ (u2 : Int) < (m : Int) := by omega
      have HDR : Hid (D' = D) := Lib.hid (by rw [HDD.out, if_neg hu])
      have HX := Lib.hid (OpenTo.mk (w := w) (v := .slice va q vc) (u := u2) (B := w1.heap.size) (H := w2.heap.size) (Ls := Ls2) s HDK.out (HK2.out.mono (fun _ _ x => x.elim)) (Foot.refl _ _ _ _) HK1.out.size (Nat.le_refl _) HG.out (fun k x => .inl (by have := HLT.out k x; have := HK1.out.size; omega)))
      rw [← HQ.out] at HX
      have HX2 : Hid (OpenTo base w db mb L s D' Ls2 u2 _ _) := Lib.hid (by rw [HDR.out]; exact HX.out)
      clear HX hu hub
      go_wp2
      go_ret3
      exact HX2.out
  · obtain ⟨rfl, rfl, rfl⟩ := hsc2.fn HSC.out.1
    exact absurd HSC.out.2.1 (fun e => e.elim hn2.1 hn2.2)
set_option maxRecDepth 100000 in
set_option maxHeartbeats 4000000 in
theorem wOpen_bad (base db mb : Nat) (L : List (ByteArray × Fi)) (D : DA) (s : ByteArray) (hs : s.size ≤ maxLen) (f : PF) (Ls : List (List Nat)) (u n : Nat) (w : World) (h : DK base w db mb L D) (hd : D.down = false) (hf : getM D.L s = some f) (hfl : f.b.length ≤ 1000000000) (hsc : ScanR f.b Ls u n) (hn : n ≠ 0 ∧ n ≠ 2) (HN : Nibs w) :
    Calls Tryd.prog 24 #[.pointer (some ⟨db, 0, none⟩), .string s] w fun e w' => e = .returned (.tuple #[.pointer none, .slice none 0 0, .int .i64 15]) ∧ Kept (fun _ => False) w w' := by
  have hre : readA D s = (f.b, 0) := by unfold readA; rw [hd, hf]; rfl
  have HRD := Lib.hid (dRead_any base db mb L D s hs w h)
  have hfb : ∀ x ∈ f.b, x < 256 := h.ok.byte (s, f) (getM_mem hf)
  have HSC := Lib.hid (And.intro hsc (And.intro hn hfb))
  rw [hre] at HRD
  have HH := Lib.hid (And.intro h HN)
  obtain ⟨m, hm⟩ : ∃ m, m = f.b.length := ⟨_, rfl⟩
  have HM := Lib.hid (And.intro hm hfl)
  clear h hd hf hfl hsc hn HN hfb hre
  go_enter Tryd.func24, Tryd.ntmps24
  go_wp2_with fail
  refine HRD.out.mono ?_
  rintro e w1 ⟨a, c, rfl, hmi⟩
  have hcap := own_capB hmi.own
  have hrow := slAt_row8 hmi.at_ HSC.out.2.2
  have HREC := Lib.hid (wRecords_any a c f.b HM.out.2 hcap w1 hrow (HH.out.2.kept hmi.kept))
  have HK1 := Lib.hid hmi.kept
  dsimp only
  rw [← HM.out.1] at HREC ⊢
  clear hmi hcap hrow hm
  go_wp2_with fail
  refine HREC.out.mono ?_
  rintro e w2 ⟨Ls2, u2, n2, hsc2, k2, ⟨hn2, v, rfl, hg⟩ | ⟨hn2, rfl⟩⟩
  · obtain ⟨rfl, rfl, rfl⟩ := hsc2.fn HSC.out.1
    exact absurd hn2 (fun e => e.elim HSC.out.2.1.1 HSC.out.2.1.2)
  · have HK2 := Lib.hid (HK1.out.trans k2)
    clear hsc2 k2 hn2
    go_wp2
    go_ret3
    exact ⟨rfl, HK2.out⟩
theorem Nibs.keptS {S : Nat → Prop} {w w' : World} (h : Nibs w) (hk : Kept S w w') (h0 : ¬ S 0) : Nibs w' := fun j hj => hk.cell (h j hj) h0
theorem DK.no0 {base : Nat} {w : World} {db mb : Nat} {L : List (ByteArray × Fi)} {D : DA} (h : DK base w db mb L D) (hb : 0 < base) : ¬ foot db mb L 0 := fun x => by have := (h.lt x).2; omega
/-- What Open answers of a file that isn't there; r: what making it leaves. -/
def OpenNew (base : Nat) (w : World) (db mb : Nat) (L : List (ByteArray × Fi)) (s : ByteArray) (r : DA × Int) (e : Ending) (w' : World) : Prop :=
  (r.2 = 0 ∧ OpenTo base w db mb L s r.1 [] 0 e w') ∨
  (r.2 ≠ 0 ∧ ∃ L', e = .returned (.tuple #[.pointer none, .slice none 0 0, .int .i64 r.2]) ∧ DK base w' db mb L' r.1 ∧ Kept (foot db mb L) w w' ∧ Foot w db mb L L')
set_option maxRecDepth 100000 in
set_option maxHeartbeats 4000000 in
theorem wOpen_new (base db mb : Nat) (hb0 : 0 < base) (L : List (ByteArray × Fi)) (D : DA) (s : ByteArray) (hs : s.size ≤ maxLen) (w : World) (h : DK base w db mb L D) (hd : D.down = false) (hf : getM D.L s = none) (HN : Nibs w) :
    Calls Tryd.prog 24 #[.pointer (some ⟨db, 0, none⟩), .string s] w (OpenNew base w db mb L s (createD D s)) := by
  have hre : readA D s = ([], 7) := by unfold readA; rw [hd, hf]; rfl
  have HRD := Lib.hid (dRead_any base db mb L D s hs w h)
  rw [hre] at HRD
  have HH := Lib.hid (And.intro h (And.intro HN hs))
  obtain ⟨r, hr⟩ : ∃ r, r = createD D s := ⟨_, rfl⟩
  rw [← hr]
  have HR := Lib.hid hr
  clear h hd hf hre hr HN
  go_enter Tryd.func24, Tryd.ntmps24
  go_wp2_with fail
  refine HRD.out.mono ?_
  rintro e w1 ⟨a, c, rfl, hmi⟩
  have HK1 := Lib.hid hmi.kept
  have hcap := own_capB hmi.own
  have HCAP := Lib.hid hcap
  dsimp only
  simp only [List.length_nil] at hcap ⊢
  have HC := Lib.hid ((dCreate_any base db mb L D s HH.out.2.2 w1 (HH.out.1.kept hmi.kept (fun _ _ x => x))).mono (fun e w' => DTo.pre hmi.kept))
  rw [← HR.out] at HC
  clear hmi hcap
  go_wp2_with fail
  refine HC.out.mono ?_
  rintro e w2 ⟨L', rfl, h2, k2, f2⟩
  obtain ⟨z, hz⟩ : ∃ z : Int, z = r.2 := ⟨_, rfl⟩
  rw [← hz]
  have HZ := Lib.hid hz
  have H2 := Lib.hid (And.intro h2 (And.intro k2 f2))
  have HLT := Lib.hid (fun k (x : foot db mb L' k) => (h2.lt x).1)
  have HN2 : Hid (Nibs w2) := Lib.hid (HH.out.2.1.keptS k2 (HH.out.1.no0 hb0))
  clear h2 k2 f2 hz
  by_cases h0 : z = 0
  · have HREC := Lib.hid (wRecords_any a c [] (by simp) (Nat.zero_le _) w2 (⟨a, c, rfl, by simp, fun j hj => absurd hj (by simp)⟩) HN2.out)
    simp only [List.length_nil] at HREC
    have hz0 : r.2 = 0 := by rw [← HZ.out]; exact h0
    have HR0 := Lib.hid hz0
    subst h0
    clear hz0
    go_wp2_with fail
    refine HREC.out.mono ?_
    rintro e w3 ⟨Ls2, u2, n2, hsc2, k3, ⟨hn2, v, rfl, hg⟩ | ⟨hn2, rfl⟩⟩
    · obtain ⟨rfl, rfl, rfl⟩ := hsc2.fn .done
      have HG := Lib.hid hg
      have HK3 := Lib.hid k3
      obtain ⟨va, vc, hv, _⟩ := hg
      subst hv
      have HX := Lib.hid (OpenTo.mk (w := w) (v := .slice va ([] : List (List Nat)).length vc) (u := 0) (B := w2.heap.size) (H := w3.heap.size) (Ls := []) s (H2.out.1.kept k3 (fun _ _ x => x)) (H2.out.2.1.trans (k3.mono (fun _ _ x => x.elim))) H2.out.2.2 H2.out.2.1.size (Nat.le_refl _) HG.out (fun k x => .inl (HLT.out k x)))
      have HX2 := Lib.hid (show OpenNew base w db mb L s r _ _ from .inl ⟨HR0.out, HX.out⟩)
      simp only [List.length_nil, Int.natCast_zero] at HX2 ⊢
      clear hsc2 k3 hn2 HX
      go_wp2
      go_ret3
      exact HX2.out
    · obtain ⟨rfl, rfl, rfl⟩ := hsc2.fn .done
      exact absurd rfl hn2.1
  · have q0 : (z != 0) = true := by simp [bne, beq_eq_false_iff_ne.2 h0]
    have hz0 : r.2 ≠ 0 := by rw [← HZ.out]; exact h0
    have HR0 := Lib.hid hz0
    clear hz0 h0
    go_wp2
    go_ret3
    exact .inr ⟨HR0.out, L', by rw [← HZ.out]; rfl, H2.out.1, H2.out.2.1, H2.out.2.2⟩
end Go.Proofs.YtficodklidaheaaDoor
/-
  DERIVED: THE SHELF's CONTRACTS AT THIS DUMP, IN PLAIN WORDS (tools/lay-plain.mjs out of 'TrydIterLay.lean', which tools/lay-shelf.mjs wrote): THE SAME DECLARATIONS UNDER THE SAME NAMES: 'import', 'namespace', 'open', 'def', 'theorem' AND NOTHING ELSE: no command of the shelf's: FOR A HAND-IN. Each laying: the table of numbers ('.._ren') and one theorem, a field a fact of the dump's own or the kernel's comparison; each contract: ONE APPLICATION.
-/
namespace Go.Proofs
open Go.Shelf
def Tryd.keysIt_ren : Go.Shelf.Ren := ⟨fun | 7 => 93 | 10 => 109 | n => n, fun | 23 => 109 | 26 => 9 | 3 => 114 | 28 => 146 | 0 => 0 | 27 => 145 | 33 => 112 | 4 => 4 | n => n, fun | n => n⟩
theorem Tryd.keysIt : Go.Proofs.SlLaysZ.n7 Tryd.prog Tryd.keysIt_ren := {
  mixed := by kernel_rfl
  f7 := ⟨Tryd.f93.name, by decide, Tryd.func93.trans (congrArg some (by kernel_rfl))⟩
  f10 := ⟨Tryd.f109.name, by decide, Tryd.func109.trans (congrArg some (by kernel_rfl))⟩
  t0 := Tryd.underlying0
  a0 := Tryd.isAgg0
  z0 := Tryd.sizeOf0
  v0 := Tryd.zeroValue0
  t4 := Tryd.underlying4
  a4 := Tryd.isAgg4
  z4 := Tryd.sizeOf4
  v4 := Tryd.zeroValue4
  t23 := Tryd.underlying109
  a23 := Tryd.isAgg109
  z23 := Tryd.sizeOf109
  v23 := Tryd.zeroValue109
  t26 := Tryd.underlying9
  a26 := Tryd.isAgg9
  z26 := Tryd.sizeOf9
  v26 := Tryd.zeroValue9
  t27 := Tryd.underlying145
  a27 := Tryd.isAgg145
  z27 := Tryd.sizeOf145
  v27 := Tryd.zeroValue145
  t28 := Tryd.underlying146
  a28 := Tryd.isAgg146
  z28 := Tryd.sizeOf146
  v28 := Tryd.zeroValue146
  t33 := Tryd.underlying112
  a33 := Tryd.isAgg112
  z33 := Tryd.sizeOf112
  v33 := Tryd.zeroValue112 }
def Tryd.sortedIt_ren : Go.Shelf.Ren := ⟨fun | 6 => 92 | 8 => 107 | 9 => 108 | 11 => 111 | 13 => 113 | 12 => 112 | 23 => 123 | 24 => 124 | 14 => 114 | 15 => 115 | 16 => 116 | 17 => 117 | 18 => 118 | 19 => 119 | 20 => 120 | 21 => 121 | 22 => 122 | 25 => 125 | 26 => 126 | 27 => 127 | 28 => 128 | 29 => 129 | 30 => 130 | 31 => 131 | n => n, fun | 26 => 9 | 28 => 146 | 24 => 53 | 0 => 0 | 3 => 3 | 37 => 141 | 48 => 104 | 50 => 132 | 4 => 4 | 40 => 163 | 39 => 162 | 45 => 168 | 5 => 5 | 9 => 9 | 51 => 172 | 55 => 175 | 57 => 177 | 58 => 178 | 33 => 112 | n => n, fun | n => n⟩
theorem Tryd.sortedIt : Go.Proofs.SlLaysZ.n6 Tryd.prog Tryd.sortedIt_ren := {
  mixed := by kernel_rfl
  f6 := ⟨Tryd.f92.name, by decide, Tryd.func92.trans (congrArg some (by kernel_rfl))⟩
  f8 := ⟨Tryd.f107.name, by decide, Tryd.func107.trans (congrArg some (by kernel_rfl))⟩
  f11 := ⟨Tryd.f111.name, by decide, Tryd.func111.trans (congrArg some (by kernel_rfl))⟩
  t0 := Tryd.underlying0
  a0 := Tryd.isAgg0
  z0 := Tryd.sizeOf0
  v0 := Tryd.zeroValue0
  t24 := Tryd.underlying53
  a24 := Tryd.isAgg53
  z24 := Tryd.sizeOf53
  v24 := Tryd.zeroValue53
  t26 := Tryd.underlying9
  a26 := Tryd.isAgg9
  z26 := Tryd.sizeOf9
  v26 := Tryd.zeroValue9
  t28 := Tryd.underlying146
  a28 := Tryd.isAgg146
  z28 := Tryd.sizeOf146
  v28 := Tryd.zeroValue146
  i26 := by kernel_rfl }
def Tryd.sortIt_ren : Go.Shelf.Ren := ⟨fun | 6 => 108 | 8 => 113 | 9 => 112 | 19 => 123 | 20 => 124 | 21 => 114 | 22 => 115 | 23 => 116 | 24 => 117 | 25 => 118 | 26 => 119 | 27 => 120 | 28 => 121 | 29 => 122 | 36 => 125 | 31 => 126 | 32 => 127 | 37 => 128 | 38 => 129 | 39 => 130 | 41 => 131 | n => n, fun | 27 => 53 | 29 => 9 | 3 => 3 | 32 => 141 | 26 => 53 | 0 => 0 | 44 => 104 | 46 => 132 | 4 => 4 | 36 => 163 | 35 => 162 | 41 => 168 | 5 => 5 | 9 => 9 | 53 => 172 | 57 => 175 | 63 => 177 | 64 => 178 | n => n, fun | n => n⟩
theorem Tryd.sortIt : Go.Proofs.SlLaysM.n6 Tryd.prog Tryd.sortIt_ren := {
  mixed := by kernel_rfl
  f6 := ⟨Tryd.f108.name, by decide, Tryd.func108.trans (congrArg some (by kernel_rfl))⟩
  f8 := Tryd.func113.trans (congrArg some (by kernel_rfl))
  f9 := ⟨Tryd.f112.name, by decide, Tryd.func112.trans (congrArg some (by kernel_rfl))⟩
  f19 := Tryd.func123.trans (congrArg some (by kernel_rfl))
  f20 := Tryd.func124.trans (congrArg some (by kernel_rfl))
  f21 := ⟨Tryd.f114.name, by decide, Tryd.func114.trans (congrArg some (by kernel_rfl))⟩
  f22 := ⟨Tryd.f115.name, by decide, Tryd.func115.trans (congrArg some (by kernel_rfl))⟩
  f23 := ⟨Tryd.f116.name, by decide, Tryd.func116.trans (congrArg some (by kernel_rfl))⟩
  f24 := ⟨Tryd.f117.name, by decide, Tryd.func117.trans (congrArg some (by kernel_rfl))⟩
  f25 := ⟨Tryd.f118.name, by decide, Tryd.func118.trans (congrArg some (by kernel_rfl))⟩
  f26 := ⟨Tryd.f119.name, by decide, Tryd.func119.trans (congrArg some (by kernel_rfl))⟩
  f27 := ⟨Tryd.f120.name, by decide, Tryd.func120.trans (congrArg some (by kernel_rfl))⟩
  f28 := ⟨Tryd.f121.name, by decide, Tryd.func121.trans (congrArg some (by kernel_rfl))⟩
  f29 := ⟨Tryd.f122.name, by decide, Tryd.func122.trans (congrArg some (by kernel_rfl))⟩
  f31 := Tryd.func126.trans (congrArg some (by kernel_rfl))
  f32 := Tryd.func127.trans (congrArg some (by kernel_rfl))
  f36 := ⟨Tryd.f125.name, by decide, Tryd.func125.trans (congrArg some (by kernel_rfl))⟩
  f37 := ⟨Tryd.f128.name, by decide, Tryd.func128.trans (congrArg some (by kernel_rfl))⟩
  f38 := ⟨Tryd.f129.name, by decide, Tryd.func129.trans (congrArg some (by kernel_rfl))⟩
  f39 := ⟨Tryd.f130.name, by decide, Tryd.func130.trans (congrArg some (by kernel_rfl))⟩
  f41 := ⟨Tryd.f131.name, by decide, Tryd.func131.trans (congrArg some (by kernel_rfl))⟩
  t0 := Tryd.underlying0
  a0 := Tryd.isAgg0
  z0 := Tryd.sizeOf0
  v0 := Tryd.zeroValue0
  t3 := Tryd.underlying3
  a3 := Tryd.isAgg3
  z3 := Tryd.sizeOf3
  v3 := Tryd.zeroValue3
  t4 := Tryd.underlying4
  a4 := Tryd.isAgg4
  z4 := Tryd.sizeOf4
  v4 := Tryd.zeroValue4
  t5 := Tryd.underlying5
  a5 := Tryd.isAgg5
  z5 := Tryd.sizeOf5
  v5 := Tryd.zeroValue5
  t9 := Tryd.underlying9
  a9 := Tryd.isAgg9
  z9 := Tryd.sizeOf9
  v9 := Tryd.zeroValue9
  t26 := Tryd.underlying53
  a26 := Tryd.isAgg53
  z26 := Tryd.sizeOf53
  v26 := Tryd.zeroValue53
  t27 := Tryd.underlying53
  a27 := Tryd.isAgg53
  z27 := Tryd.sizeOf53
  v27 := Tryd.zeroValue53
  t29 := Tryd.underlying9
  a29 := Tryd.isAgg9
  z29 := Tryd.sizeOf9
  v29 := Tryd.zeroValue9
  t32 := Tryd.underlying141
  a32 := Tryd.isAgg141
  z32 := Tryd.sizeOf141
  v32 := Tryd.zeroValue141
  t35 := Tryd.underlying162
  a35 := Tryd.isAgg162
  z35 := Tryd.sizeOf162
  v35 := Tryd.zeroValue162
  t36 := Tryd.underlying163
  a36 := Tryd.isAgg163
  z36 := Tryd.sizeOf163
  v36 := Tryd.zeroValue163
  t41 := Tryd.underlying168
  a41 := Tryd.isAgg168
  z41 := Tryd.sizeOf168
  v41 := Tryd.zeroValue168
  t44 := Tryd.underlying104
  a44 := Tryd.isAgg104
  z44 := Tryd.sizeOf104
  v44 := Tryd.zeroValue104
  t46 := Tryd.underlying132
  a46 := Tryd.isAgg132
  z46 := Tryd.sizeOf132
  v46 := Tryd.zeroValue132
  t53 := Tryd.underlying172
  a53 := Tryd.isAgg172
  z53 := Tryd.sizeOf172
  v53 := Tryd.zeroValue172
  t57 := Tryd.underlying175
  a57 := Tryd.isAgg175
  z57 := Tryd.sizeOf175
  v57 := Tryd.zeroValue175
  t63 := Tryd.underlying177
  a63 := Tryd.isAgg177
  z63 := Tryd.sizeOf177
  v63 := Tryd.zeroValue177
  t64 := Tryd.underlying178
  a64 := Tryd.isAgg178
  z64 := Tryd.sizeOf178
  v64 := Tryd.zeroValue178 }
end Go.Proofs
/- Layer 18: all names of a disk, rising. -/
namespace Go.Proofs.YtficodklidaheaaDoor
open Go.RowKit Go.Maps Go.Sort Go.Shelf
attribute [local go_sem ↓] Go.wp_at_zero Go.wp_at_succ

theorem sortsIt (m : Nat) : AnyZ.SortsIn Tryd.prog Tryd.sortedIt_ren Fence.wide m :=
  ⟨fun blk off cap ss W hH hblk hsz => callsIn_wide.2 (AnyM.slices_Sort_string Tryd.sortIt blk off cap ss W hH hblk hsz),
   fun p cap W => callsIn_wide.2 (AnyM.slices_Sort_string_none Tryd.sortIt p cap W)⟩
theorem mapsKeys_any (mb : Option Nat) (W : World) : CallsIn Fence.wide 5 Tryd.prog 93 #[.map mb] W fun e w' =>
    e = .returned (.func (.func 109) #[] #[.pointer (some ⟨W.heap.size, 0, none⟩)]) ∧ w' = W.alloc (.cells #[.map mb] 109) :=
  AnyZ.keys_in Tryd.keysIt Fence.wide 5 trivial rfl mb W
set_option maxHeartbeats 1000000 in
theorem sortedKeys_any {H : Type} (b nn : Nat) (D0 : DataW H) (R : Value → Option (DataW H × List MemPlace)) (w : World) (hown : w.ownsMap Tryd.prog 9 R b nn D0) (hmax : Maps.size D0 ≤ maxLen) (hbytes : Maps.size D0 * 16 ≤ 140737488355328) :
    CallsIn Fence.wide 5 Tryd.prog 92 #[.func (.func 109) #[] #[.pointer (some ⟨w.heap.size, 0, none⟩)]] (w.alloc (.cells #[.map (some b)] 109)) fun e w' =>
      ∃ (v : Value) (ss : List (List UInt8)), e = .returned v ∧ ss.Perm (strKeys D0) ∧
      w'.ownsRow (w.alloc (.cells #[.map (some b)] 109)).heap.size 9 1 v ss.length ((ss.mergeSort (fun x y => decide (x ≤ y))).map encStr) ∧ (v = .slice none 0 0 ↔ ss = []) ∧
      Below (w.alloc (.cells #[.map (some b)] 109)).heap.size (w.alloc (.cells #[.map (some b)] 109)) w' := by
  have hbl := hown.lt
  have hseq : SeqGives Fence.wide 2 Tryd.prog 109 #[.pointer (some ⟨w.heap.size, 0, none⟩)] encStr (fun ss => ss.Perm (strKeys D0)) (Maps.size D0) (w.alloc (.cells #[.map (some b)] 109)) :=
    AnyZ.keys_gives (ρ := Tryd.keysIt_ren) { Tryd.keysIt with } Fence.wide _ trivial rfl (by omega) w.heap.size b nn D0 _ (by simp) (by simp) (by
      obtain ⟨es, clock, hb, Ft, hs, hD⟩ := hown
      exact ⟨es, clock, (Below.heap_alloc _ _ b hbl).trans hb, Ft, hs, hD⟩)
  exact AnyZ.sorted_in Tryd.sortedIt Fence.wide 5 trivial trivial trivial trivial rfl (by omega) (sortsIt _) (enters_of Tryd.func108 (by kernel_rfl) rfl) 109 #[.pointer (some ⟨w.heap.size, 0, none⟩)] trivial
    (enters_of Tryd.func109 (by kernel_rfl) rfl) _ _ hmax hbytes _ hseq

/-- The order of the library's lists of bytes is Go's. -/
theorem le_less : ∀ x y : List UInt8, decide (x ≤ y) = !Op.bytesLess y x
  | [], y => by
    have : Op.bytesLess y [] = false := by cases y <;> rfl
    rw [this]
    simp
  | a :: x, [] => by
    have : Op.bytesLess [] (a :: x) = true := rfl
    rw [this]
    simp
  | a :: x, b :: y => by
    have ih := le_less x y
    have e : Op.bytesLess (b :: y) (a :: x) = (decide (b < a) || (b == a && Op.bytesLess y x)) := rfl
    rw [e]
    by_cases h : a = b
    · subst h
      simp only [lt_irrefl', decide_false, Bool.false_or, beq_self_eq_true, Bool.true_and]
      rw [← ih]
      refine decide_eq_decide.2 ?_
      rw [List.cons_le_cons_iff]
      simp
    · have h' : (b == a) = false := beq_eq_false_iff_ne.2 (Ne.symm h)
      rw [h', Bool.false_and, Bool.or_false]
      rcases UInt8.lt_or_lt_of_ne h with h1 | h1
      · have h2 : ¬ b < a := UInt8.lt_asymm h1
        simp [List.cons_le_cons_iff, h1, h2]
      · have h2 : ¬ a < b := UInt8.lt_asymm h1
        simp [List.cons_le_cons_iff, h1, h2, h]
where
  lt_irrefl' {a : UInt8} : (a < a) = False := by simp
def strs (L : List ByteArray) : List Value := L.map Value.string
theorem strs_length (L : List ByteArray) : (strs L).length = L.length := List.length_map ..
/-- The names of a disk. -/
def namesA (L : List (ByteArray × PF)) : List ByteArray := L.map (·.1)
theorem keys_sorted {L : List (ByteArray × PF)} (hL : Asc L) {ss : List (List UInt8)} (h : ss.Perm (L.map fun p => p.1.toList)) : (ss.mergeSort fun x y => decide (x ≤ y)).map encStr = strs (namesA L) := by
  have tr : ∀ a b c : List UInt8, leB a b = true → leB b c = true → leB a c = true := fun a b c h1 h2 => by simp only [leB, decide_eq_true_eq] at *; exact List.le_trans h1 h2
  have tot : ∀ a b : List UInt8, (leB a b || leB b a) = true := fun a b => by simp only [leB, Bool.or_eq_true, decide_eq_true_eq]; exact List.le_total a b
  have hs : (L.map fun p => p.1.toList).Pairwise fun a b => leB a b = true := by
    rw [List.pairwise_map]
    exact hL.imp fun h => by
      show decide (_ ≤ _) = true
      rw [le_less]
      rw [show Op.bytesLess _ _ = false from ltN_asym h]
      rfl
  have e : ss.mergeSort leB = L.map fun p => p.1.toList :=
    List.Perm.eq_of_pairwise (le := fun a b => leB a b = true) (fun a b _ _ h1 h2 => by
      simp only [leB, decide_eq_true_eq] at h1 h2
      exact List.le_antisymm h1 h2) (List.pairwise_mergeSort tr tot ss) hs ((List.mergeSort_perm ss leB).trans h)
  show (ss.mergeSort leB).map encStr = _
  rw [e]
  unfold strs namesA
  rw [List.map_map, List.map_map]
  refine List.map_congr_left (fun p _ => ?_)
  simp only [Function.comp, encStr]
  rw [ByteArray.toList_eq]
set_option maxHeartbeats 1000000 in
theorem dnames_any (base db mb : Nat) (L : List (ByteArray × Fi)) (D : DA) (w : World) (h : DK base w db mb L D) :
    Calls Tryd.prog 68 #[.pointer (some ⟨db, 0, none⟩)] w fun e w' => ∃ v, e = .returned v ∧ Mine w w' 9 v (strs (namesA D.L)) := by
  have c0 := h.c.1
  obtain ⟨D0, hown, es, hD, hp⟩ := h.map.owns Tryd.underlying9
  have hlen : es.length = L.length := by
    have := hp.length_eq
    simpa [mapM] using this
  have hsz : Maps.size D0 = L.length := by rw [hD]; exact hlen
  have hc := h.ok.count
  have hl := h.len
  have hmax : Maps.size D0 ≤ maxLen := by rw [hsz, hl]; unfold maxLen; omega
  have hbytes : Maps.size D0 * 16 ≤ 140737488355328 := by rw [hsz, hl]; omega
  have hkeys : (strKeys D0).Perm (D.L.map fun p => p.1.toList) := by
    rw [hD]
    show (es.map fun p => strOf p.1).Perm _
    have h1 := hp.map fun p => strOf p.1
    have h2 := h.perm.map fun p => p.1.toList
    refine h1.trans ?_
    refine List.Perm.trans (List.Perm.of_eq ?_) h2
    unfold mapM
    rw [List.map_map, List.map_map, List.map_map]
    refine List.map_congr_left (fun p _ => ?_)
    simp only [Function.comp, strOf]
    rw [ByteArray.toList_eq]
  have HA := Lib.hid h.ok.asc
  have HKS := Lib.hid hkeys
  clear hD hp hlen hsz hc hl h hkeys
  refine (callsIn_wide (n := 6)).1 ?_
  have hfK : Fence.wide.fn 93 := trivial
  have hfS : Fence.wide.fn 92 := trivial
  refine callsIn_of_wp Tryd.func68 rfl trivial ?_ rfl
  simp only [Tryd.ntmps68, List.size_toArray, List.length_cons, List.length_nil, Nat.reduceAdd, Nat.reduceSub, Array.replicate_succ, Array.replicate_zero, List.push_toArray, List.append_toArray, List.nil_append, List.cons_append]
  gi_wp2_with (first
    | (gi_at_call 93; refine (mapsKeys_any _ _).mono ?_; rintro e w' ⟨rfl, rfl⟩)
    | (gi_at_call 92; refine (sortedKeys_any mb _ D0 _ w hown hmax hbytes).mono ?_; rintro e w' ⟨v, ss, rfl, hS, hrow, hnil, hb⟩))
  go_ret
  have hbs : w.heap.size ≤ (w.alloc (.cells #[.map (some mb)] 109)).heap.size := by simp
  have hk : Kept (fun _ => False) w w' := ((Kept.refl (fun _ => False) w).alloc _).step (S' := fun k => _ ≤ k) (Kept.ofBelow hb) (fun k hk x => by omega)
  rw [keys_sorted HA.out (hS.trans HKS.out)] at hrow
  exact ⟨v, rfl, Mine.ofFresh (ownsRow_base_a hrow (by simp)) hk⟩
end Go.Proofs.YtficodklidaheaaDoor
