/- Texts put together: WE, S9, WF. -/
import Derived.Test.YtficodklidaheaaDoorZz13
import Derived.Test.YtficodklidaheaaDoorZz14
import Derived.Deep.RegionWith
/- Layer 19: Append. -/
namespace Go.Proofs.YtficodklidaheaaDoor
open Go.RowKit
attribute [local go_sem ↓] Go.wp_at_zero Go.wp_at_succ

theorem LogAt.kept {S : Nat → Prop} {w w' : World} {lb db : Nat} {s : ByteArray} {n size : Int} (h : LogAt w lb db s n size) (k : Kept S w w') (hn : ¬ S lb) : LogAt w' lb db s n size := BoxAt.kept h k hn
/-- A log's box is none of the disk's blocks. -/
theorem LogAt.apart {base : Nat} {w : World} {db mb lb : Nat} {L : List (ByteArray × Fi)} {D : DA} {s : ByteArray} {n size : Int} (hl : LogAt w lb db s n size) (h : DK base w db mb L D) : ¬ foot db mb L lb := by
  intro f
  rcases f with e | e | ⟨p, hp, e⟩
  · subst e
    have h1 := h.box
    unfold LogAt at hl
    unfold BoxAt at hl h1
    rw [h1] at hl
    injection hl with hl
    simp at hl
  · subst e
    exact h.map.notCells hl rfl
  · obtain ⟨cur, hc, _⟩ := (h.data p hp).block e
    unfold LogAt BoxAt at hl
    rw [hc] at hl
    injection hl with hl
    simp at hl
/-- What a log's Append leaves. -/
def LogTo (base : Nat) (w : World) (db mb lb : Nat) (L : List (ByteArray × Fi)) (s : ByteArray) (n size : Int) (k : Nat) (r : DA × Int) (e : Ending) (w' : World) : Prop :=
  ∃ L', e = .returned (.int .i64 r.2) ∧ DK base w' db mb L' r.1 ∧ Kept (fun j => j = lb ∨ foot db mb L j) w w' ∧ Foot w db mb L L' ∧ (r.2 = 0 → LogAt w' lb db s (n + 1) (size + k)) ∧ (r.2 ≠ 0 → LogAt w' lb db s n size)
set_option maxRecDepth 100000 in
set_option maxHeartbeats 4000000 in
theorem wAppend_any (base db mb lb : Nat) (L : List (ByteArray × Fi)) (D : DA) (s : ByteArray) (hs : s.size ≤ maxLen) (n size : Int) (hn : 0 ≤ n ∧ n ≤ 1000000000) (hsz : 0 ≤ size ∧ size ≤ 1000000000) (v : Value) (l : List Nat) (hl : l.length ≤ 65536) (w : World) (h : DK base w db mb L D) (hlog : LogAt w lb db s n size) (HB : Row8 w v l) (HN : Nibs w) :
    Calls Tryd.prog 31 #[.pointer (some ⟨lb, 0, none⟩), v] w (LogTo base w db mb lb L s n size (9 + l.length) (appendD D s (frameL l))) := by
  have HW := Lib.hid (wrap_any v l hl w HB HN)
  have HLT := Lib.hid (frameL_lt l HB.lt)
  have HH := Lib.hid (And.intro h hlog)
  obtain ⟨a0, c0, hv⟩ : ∃ a0 c0, v = .slice a0 l.length c0 := by obtain ⟨a0, c0, e, _⟩ := HB; exact ⟨a0, c0, e⟩
  have HLN : Hid ((frameL l).length = 9 + l.length ∧ 9 + l.length ≤ 100000) := Lib.hid ⟨frameL_len l, by omega⟩
  obtain ⟨fl, hfl⟩ : ∃ fl, fl = 9 + l.length := ⟨_, rfl⟩
  rw [← hfl] at HLN ⊢
  have HFL := Lib.hid hfl
  obtain ⟨m, hm⟩ : ∃ m, m = l.length := ⟨_, rfl⟩
  rw [← hm] at hv
  subst hv
  obtain ⟨F, hF⟩ : ∃ F, F = frameL l := ⟨_, rfl⟩
  rw [← hF] at HLT HLN ⊢
  have HFF := Lib.hid hF
  obtain ⟨r, hr⟩ : ∃ r, r = appendD D s F := ⟨_, rfl⟩
  rw [← hr]
  have HR := Lib.hid hr
  have wn : IntKind.i64.wrap (n + 1) = n + 1 := by rw [IntWalk.i64_in _ ⟨by omega, by omega⟩]
  have wn2 : wrap64 (n + 1) = n + 1 := by unfold wrap64; omega
  have ws : IntKind.i64.wrap (size + (fl : Int)) = size + (fl : Int) := by rw [IntWalk.i64_in _ ⟨by omega, by omega⟩]
  have ws2 : wrap64 (size + (fl : Int)) = size + (fl : Int) := by unfold wrap64; omega
  clear h hlog HB HN hl hfl hm hn hsz hF hr
  go_enter Tryd.func31, Tryd.ntmps31
  go_wp2_with fail
  refine HW.out.mono ?_
  rintro e w1 hw
  obtain ⟨fv, rfl, hown, hk1⟩ := hw
  obtain ⟨fa, fc, rfl⟩ := ownsRow_slice hown
  rw [← HFL.out] at hown ⊢
  rw [← HFF.out] at hown
  have hat : SlAt w1 (.slice fa fl fc) (byV F) := SlAt.ofOwn hown
  have hne : ∀ j, (Value.slice fa fl fc).ownBlock = some j → j ≠ db := fun j e x => by
    have h1 := ownsRow_lt hown e
    have h2 := (HH.out.1.lt (k := db) (.inl rfl)).1
    omega
  have k2 : Kept (fun _ => False) w1 w1.drew := (Kept.refl _ _).drew
  have HD := Lib.hid ((dAppend_any base db mb L D s hs fa fl fc F HLN.out.1 HLT.out (by have := HLN.out; omega) w1.drew (HH.out.1.kept (hk1.trans k2) (fun _ _ x => x)) (hat.kept k2 (fun _ _ x => x)) (fun _ => hne)).mono (fun e w' => DTo.pre (hk1.trans k2)))
  have HL1 := Lib.hid (HH.out.2.kept (hk1.trans k2) (fun x => x))
  have c0 := HL1.out.cell (i := 0) (u := .pointer (some ⟨db, 0, none⟩)) rfl
  have c1 := HL1.out.cell (i := 1) (u := .string s) rfl
  rw [← HR.out] at HD
  have HAP := Lib.hid (HH.out.2.apart HH.out.1)
  have HKK := Lib.hid (hk1.trans k2)
  clear hown hk1 hat hne k2
  go_wp2
  go_region_with (go_at_call 69; refine HD.out.mono ?_; rintro e w4 ⟨L', rfl, h4, k4, f4⟩; have HL4 := Lib.hid (HH.out.2.kept k4 HAP.out); have H4 := Lib.hid (And.intro h4 (And.intro k4 f4)); clear h4 k4 f4)
  all_goals (
    obtain ⟨z, hz⟩ : ∃ z : Int, z = r.2 := ⟨_, rfl⟩
    rw [← hz]
    by_cases h0 : z = 0
    · have d2 := HL4.out.cell (i := 2) (u := .int .i64 n) rfl
      have d3 := HL4.out.cell (i := 3) (u := .int .i64 size) rfl
      have f2 := BoxAt.fz HL4.out 2
      have f3 := BoxAt.fz HL4.out 3
      have HX := Lib.hid (show LogTo base w db mb lb L s n size fl r (.returned (.int .i64 0)) ((w4.setCell ⟨lb, 2, none⟩ (.int .i64 (n + 1))).setCell ⟨lb, 3, none⟩ (.int .i64 (size + (fl : Int)))) from by
        have k5 := (kept_set w4 lb 2 (.int .i64 (n + 1))).trans (kept_set _ lb 3 (.int .i64 (size + (fl : Int))))
        have e0 : r.2 = 0 := by rw [← hz]; exact h0
        refine ⟨L', by rw [e0], H4.out.1.kept k5 (fun j f e => ?_), (H4.out.2.1.mono (fun _ _ e => .inr e)).trans (k5.mono (fun _ _ e => .inl e)), H4.out.2.2, fun _ => ?_, fun x => absurd e0 x⟩
        · rw [e] at f
          rcases H4.out.2.2 _ f with x | x
          · exact HAP.out x
          · have := BoxAt.lt HH.out.2; omega
        · exact ((BoxAt.set HL4.out 2 (.int .i64 (n + 1))).set 3 (.int .i64 (size + (fl : Int)))))
      subst h0
      clear hz
      go_wp2
      go_ret
      exact HX.out
    · have q0 : (z != 0) = true := by simp [bne, beq_eq_false_iff_ne.2 h0]
      have HX := Lib.hid (show LogTo base w db mb lb L s n size fl r (.returned (.int .i64 z)) w4 from ⟨L', by rw [hz], H4.out.1, H4.out.2.1.mono (fun _ _ e => .inr e), H4.out.2.2, fun x => absurd (hz.trans x) h0, fun _ => HL4.out⟩)
      clear h0 hz
      go_wp2
      go_ret
      exact HX.out)
end Go.Proofs.YtficodklidaheaaDoor
/- Layer 18: Cut. -/
namespace Go.Proofs.YtficodklidaheaaDoor
open Go.RowKit
attribute [local go_sem ↓] Go.wp_at_zero Go.wp_at_succ

set_option maxRecDepth 100000 in
set_option maxHeartbeats 4000000 in
theorem dCut_any (base db mb : Nat) (L : List (ByteArray × Fi)) (D : DA) (s : ByteArray) (hs : s.size ≤ maxLen) (m : Int) (w : World) (h : DK base w db mb L D) :
    Calls Tryd.prog 67 #[.pointer (some ⟨db, 0, none⟩), .string s, .int .i64 m] w (DTo base w db mb L (cutD D s m)) := by
  have HC := Lib.hid (dchangeOf_any base db mb L D s hs w h)
  have HX := Lib.hid (And.intro (fun e : (beginOf D s).2 = 0 => beginOf_zero e) (fun e : (beginOf D s).2 ≠ 0 => beginOf_ne e))
  have hok := cutD_ok h.ok s m
  unfold cutD at hok ⊢
  obtain ⟨g, hg⟩ : ∃ g : PF → DA → DA × Int, g = fun f D => if m < 0 ∨ (f.b.length : Int) < m then (D, 1) else ({ D with L := putS D.L s (cutF f m.toNat) }, 0) := ⟨_, rfl⟩
  rw [← hg] at hok ⊢
  have HG := Lib.hid (And.intro hg hok)
  obtain ⟨r, hr⟩ : ∃ r, r = beginOf D s := ⟨_, rfl⟩
  rw [← hr] at HC HX
  obtain ⟨D1, z⟩ := r
  have HS := Lib.hid hs
  clear hr hs h hg hok
  go_enter Tryd.func67, Tryd.ntmps67
  go_wp2_with fail
  refine HC.out.mono ?_
  rintro e w1 ⟨rfl, h1, hk1⟩
  have HD := Lib.hid (And.intro h1 hk1)
  clear h1 hk1
  by_cases hz : z = 0
  · have q0 : (z != 0) = false := bneF hz
    obtain ⟨p, hp, hgp⟩ := HX.out.1 hz
    have hy := hgp g
    have hok := HG.out.2
    rw [hy, HG.out.1] at hok
    have HY := Lib.hid (And.intro hy hok)
    subst hz
    have h1 := HD.out.1
    have hg1 := h1.get s
    rw [hp] at hg1
    cases hf : getM L s with
    | none => rw [hf] at hg1; cases hg1
    | some f =>
      obtain ⟨a, c, b, y⟩ := f
      have hpb : p = ⟨b, y⟩ := by
        rw [hf] at hg1
        simp only [Option.map_some, Fi.t, Option.some.injEq] at hg1
        exact hg1.symm
      have HPB := Lib.hid hpb
      obtain ⟨c0, _, c2, _⟩ := h1.c
      obtain ⟨u, hu0⟩ : ∃ u, u = usedL D1.L := ⟨_, rfl⟩
      have hcap := h1.ok.capR
      have hus := h1.ok.used
      rw [← hu0] at c2 hus
      have hub : b.length ≤ u := by
        have h3 := usedL_del h1.ok.asc.pair s
        rw [hp, hpb] at h3
        simp only [szM] at h3
        omega
      have hu9 : u ≤ 4194304 := by omega
      have HU := Lib.hid hu0
      have HF := Lib.hid hf
      have hl := (h1.look HS.out).1
      rw [lookF_some hf] at hl
      simp only at hl
      have hcc := (h1.data _ (getM_mem hf)).cap.1
      simp only at hcc
      obtain ⟨n, hn⟩ : ∃ n, n = b.length := ⟨_, rfl⟩
      have HN := Lib.hid hn
      rw [← hn] at hl hub hcc
      obtain ⟨q, hq⟩ : ∃ q, q = w1.heap.size := ⟨_, rfl⟩
      obtain ⟨wa, hwa⟩ : ∃ wa, wa = w1.alloc (.cells #[.slice a n c, .int .i64 (y : Int)] 114) := ⟨_, rfl⟩
      have ka : Kept (fun _ => False) w1 wa := by rw [hwa]; exact (Kept.refl _ _).alloc _
      have BA : BoxAt wa q 114 #[.slice a n c, .int .i64 (y : Int)] := by rw [hwa, hq]; exact BoxAt.new w1 _ _
      have ha := h1.kept ka (fun _ _ x => x)
      have hkw : Kept (fun k => k = db) w wa := HD.out.2.trans (ka.mono (fun _ _ x => x.elim))
      have HA := Lib.hid (And.intro ha hkw)
      have HBA := Lib.hid BA
      have HW := Lib.hid (And.intro hwa hq)
      have qA0 : wa.cell? ⟨q, 0, none⟩ = some (.slice a n c) := BA.cell rfl
      have qA1 : wa.cell? ⟨q, 1, none⟩ = some (.int .i64 (y : Int)) := BA.cell rfl
      by_cases hm : m < 0 ∨ (n : Int) < m
      · have HE : Hid (behindD D (withF s g) = (D1, 1)) := Lib.hid (by
          rw [HY.out.1, HG.out.1]
          show (if m < 0 ∨ (p.b.length : Int) < m then _ else _) = _
          rw [if_pos (by rw [HPB.out]; simp only; rw [← HN.out]; exact hm)])
        clear hp hgp hy hok h1 hg1 hf hpb hu0 hub hcap hus ka BA ha hkw hn hwa hq hcc
        rcases hm with hm | hm
        · have hm1 : decide (m < 0) = true := decide_eq_true hm
          go_wp2
          go_ret
          rw [HE.out]
          rw [← HW.out.1]
          exact BeganTo.to ⟨rfl, HA.out.1, HA.out.2⟩
        · have hm1 : decide (m < 0) = false := decide_eq_false (by omega)
          have hm2 : decide ((n : Int) < m) = true := decide_eq_true hm
          have hm3 : ¬ m < 0 := by omega
          go_upto_region 5 with fail
          rw [← HW.out.1, ← HW.out.2]
          go_wp2
          go_ret
          rw [HE.out]
          exact BeganTo.to ⟨rfl, HA.out.1, HA.out.2⟩
      · obtain ⟨v, hv⟩ : ∃ v : Nat, m = (v : Int) := ⟨m.toNat, by omega⟩
        subst hv
        have hvn : v ≤ n := by omega
        have HE : Hid (behindD D (withF s g) = ({ D1 with L := putS D1.L s ⟨b.take v, min y v⟩ }, 0) ∧ DOk { D1 with L := putS D1.L s ⟨b.take v, min y v⟩ }) := Lib.hid (by
          have e := HY.out.1
          rw [HG.out.1] at e
          have e' : (if (v : Int) < 0 ∨ (p.b.length : Int) < (v : Int) then (D1, (1 : Int)) else ({ D1 with L := putS D1.L s (cutF p (v : Int).toNat) }, 0)) = ({ D1 with L := putS D1.L s ⟨b.take v, min y v⟩ }, 0) := by
            rw [if_neg (by rw [HPB.out]; simp only; rw [← HN.out]; omega), HPB.out]
            rfl
          refine ⟨by rw [HG.out.1]; exact e.trans e', ?_⟩
          have hh := congrArg Prod.fst e'
          simp only at hh
          rw [← hh]
          exact HY.out.2)
        have hm1 : ¬ (v : Int) < 0 := by omega
        have hm2 : ¬ (n : Int) < (v : Int) := by omega
        have hm2' : decide (n < v) = false := decide_eq_false (by omega)
        have cA2 : wa.cell? ⟨db, 2, none⟩ = some (.int .i64 (u : Int)) := by rw [HU.out]; exact ha.c.2.2.1
        have fA2 := ha.box.fz 2
        obtain ⟨w7, hw7⟩ : ∃ w7, w7 = (wa.setCell ⟨db, 2, none⟩ (.int .i64 ((u : Int) - ((n : Int) - (v : Int))))).drew := ⟨_, rfl⟩
        have k7 : Kept (fun k => k = db) wa w7 := by rw [hw7]; exact (kept_set wa db 2 _).drew
        have b7 : BoxAt w7 db 111 (boxD mb { D1 with L := putS D1.L s ⟨b.take v, min y v⟩ }) := by
          rw [hw7]
          have e := usedL_put ha.ok.asc.pair s ⟨b.take v, min y v⟩
          have hg2 := ha.get s
          rw [hf] at hg2
          rw [← hg2] at e
          simp only [Option.map_some, szM, Fi.t, List.length_take] at e
          exact (usedBox (M := putS D1.L s ⟨b.take v, min y v⟩) ha.box (by omega) rfl).kept ((Kept.refl (fun _ => False) _).drew) (fun x => x)
        have q7 : BoxAt w7 q 114 #[.slice a n c, .int .i64 (y : Int)] := BA.kept k7 (fun e => by have := h1.box.lt; omega)
        have m7 := ha.map.kept k7 (fun e => ha.ne e.symm)
        have H7 := Lib.hid (And.intro (And.intro k7 b7) (And.intro q7 m7))
        have HW7 := Lib.hid hw7
        have c70 : w7.cell? ⟨db, 0, none⟩ = some (.map (some mb)) := b7.cell rfl
        have q70 : w7.cell? ⟨q, 0, none⟩ = some (.slice a n c) := q7.cell rfl
        have q71 : w7.cell? ⟨q, 1, none⟩ = some (.int .i64 (y : Int)) := q7.cell rfl
        have HFC := Lib.hid (fcut_any a n c y v hvn hcc w7.drew)
        have HVN := Lib.hid hvn
        clear hp hgp hy hok h1 hg1 hf hpb hu0 hcap hus ka BA ha hkw hn hwa hq hcc hw7 k7 b7 q7 m7 hm
        go_upto_region 7 with fail
        rw [← HW.out.1, ← HW.out.2]
        go_region
        rw [← HW7.out]
        go_upto_region 8 with fail
        go_region_with (go_at_call 70; refine HFC.out.mono ?_; rintro e w4 ⟨rfl, hk4⟩; have hk4' := (Kept.refl (fun _ => False) w7).drew.trans hk4; have c40 : w4.cell? ⟨db, 0, none⟩ = some (.map (some mb)) := (H7.out.1.2.kept hk4' (fun x => x)).cell rfl; obtain ⟨w5, hu5, hm5, hk5⟩ := (H7.out.2.2.kept hk4' (fun x => x)).update Tryd.underlying9 Tryd.underlying109 HS.out (⟨a, v, b.take v, min y v⟩ : Fi).val (by have := HA.out.1.ok.count; have := HA.out.1.len; unfold mapM maxLen; rw [List.length_map]; omega); have HK4 := Lib.hid (And.intro hk4' (And.intro hm5 hk5)); replace hu5 : (Instr.mapUpdate 109 (.map (some mb)) (.string s) (.agg #[.slice a v v, .int .i64 ((min y v : Nat) : Int)])).run Tryd.prog w4 = .ok () w5 := (by have e : (b.take v).length = v := (by rw [List.length_take]; have := HVN.out; have := HN.out; omega); unfold Fi.val at hu5; simp only [e] at hu5; exact hu5); clear hk4 hk4' hm5 hk5)
        all_goals (
          go_wp2
          go_ret
          rw [HE.out.1]
          obtain ⟨⟨k7, b7⟩, q7, m7⟩ := H7.out
          obtain ⟨k4, m5, k5⟩ := HK4.out
          have hfm := getM_mem HF.out
          have hvb : v ≤ b.length := by rw [← HN.out]; exact HVN.out
          have hbl : ∀ k, (⟨a, c, b, y⟩ : Fi).v.ownBlock = some k → k ≠ db ∧ k ≠ mb := fun k e => HA.out.1.noBox hfm e
          have kk : Kept (fun k => k = db ∨ k = mb) wa w5 := ((k7.mono (fun _ _ e => .inl e)).trans (k4.mono (fun _ _ x => x.elim))).trans (k5.mono (fun _ _ e => .inr e))
          have ho : OwnB base w5 (⟨a, v, b.take v, min y v⟩ : Fi) := ((HA.out.1.data _ hfm).cut (n := v) hvb (min y v)).kept kk (fun j e x => by
            have e' : (⟨a, c, b, y⟩ : Fi).v.ownBlock = some j := by unfold Fi.v at e ⊢; cases a <;> exact e
            obtain ⟨n1, n2⟩ := hbl j e'
            rcases x with x | x
            · exact n1 x
            · exact n2 x)
          exact DTo.behind HA.out.2 ⟨_, rfl, HA.out.1.put (s := s) (f := ⟨a, v, b.take v, min y v⟩) HE.out.2 rfl ((b7.kept k4 (fun x => x)).kept k5 HA.out.1.ne) m5 ho (kk.mono (fun k _ e => by
            rcases e with e | e
            · exact .inl e
            · exact .inr (.inl e))) (fun k e => .inl (by
              rw [lookF_some HF.out]
              unfold Fi.v at e ⊢
              cases a <;> exact e))⟩)
  · have q0 : (z != 0) = true := bneT hz
    have HY := Lib.hid (HX.out.2 hz)
    clear hz
    go_wp2
    go_ret
    rw [HY.out]
    exact BeganTo.to ⟨rfl, HD.out.1, HD.out.2⟩
end Go.Proofs.YtficodklidaheaaDoor
/- Layer 19: Open. -/
namespace Go.Proofs.YtficodklidaheaaDoor
open Go.RowKit
attribute [local go_sem ↓] Go.wp_at_zero Go.wp_at_succ

/-- What Open answers when it is well. -/
def OpenTo (base : Nat) (w : World) (db mb : Nat) (L : List (ByteArray × Fi)) (s : ByteArray) (D' : DA) (Ls : List (List Nat)) (u : Nat) (e : Ending) (w' : World) : Prop :=
  ∃ L' lb v B H, e = .returned (.tuple #[.pointer (some ⟨lb, 0, none⟩), v, .int .i64 0]) ∧ DK base w' db mb L' D' ∧ Kept (foot db mb L) w w' ∧ Foot w db mb L L' ∧ LogAt w' lb db s (Ls.length : Int) (u : Int) ∧
    w.heap.size ≤ B ∧ w.heap.size ≤ lb ∧ H ≤ lb ∧ GotRows w' B H v Ls ∧ ∀ k, foot db mb L' k → k < B ∨ H ≤ k
theorem OpenTo.mk {base : Nat} {w w3 : World} {db mb : Nat} {L L' : List (ByteArray × Fi)} {D' : DA} (s : ByteArray) {Ls : List (List Nat)} {u : Nat} {v : Value} {B H : Nat} (h : DK base w3 db mb L' D') (k : Kept (foot db mb L) w w3) (f : Foot w db mb L L') (hB : w.heap.size ≤ B) (hH : H ≤ w3.heap.size) (hg : GotRows w3 B H v Ls) (hf : ∀ k, foot db mb L' k → k < B ∨ H ≤ k) :
    OpenTo base w db mb L s D' Ls u (.returned (.tuple #[.pointer (some ⟨w3.heap.size, 0, none⟩), v, .int .i64 0])) (w3.alloc (.cells #[.pointer (some ⟨db, 0, none⟩), .string s, .int .i64 (Ls.length : Int), .int .i64 (u : Int)] 117)) := by
  have ka : Kept (fun _ => False) w3 (w3.alloc (.cells #[.pointer (some ⟨db, 0, none⟩), .string s, .int .i64 (Ls.length : Int), .int .i64 (u : Int)] 117)) := (Kept.refl _ _).alloc _
  exact ⟨L', _, v, B, H, rfl, h.kept ka (fun _ _ x => x), k.trans (ka.mono (fun _ _ x => x.elim)), f, BoxAt.new _ _ _, hB, k.size, hH, hg.kept ka (fun _ _ _ x => x), hf⟩
theorem own_capB {w : World} {B : Nat} {E : TypeId} {ao : Option Addr} {n m c z : Nat} {xs : List Value} (h : w.ownsRow B E z (.slice ao n c) m xs) : n ≤ c := by
  rcases h.2 with ⟨e, h0⟩ | ⟨g, cap, cur, e, _, _, hc, _⟩
  · injection e with _ h1 h2
    omega
  · injection e with _ e2 e3
    subst e2 e3
    exact hc
set_option maxRecDepth 100000 in
set_option maxHeartbeats 4000000 in
theorem wOpen_there (base db mb : Nat) (L : List (ByteArray × Fi)) (D : DA) (s : ByteArray) (hs : s.size ≤ maxLen) (f : PF) (Ls : List (List Nat)) (u n : Nat) (w : World) (h : DK base w db mb L D) (hd : D.down = false) (hf : getM D.L s = some f) (hfl : f.b.length ≤ 1000000000) (hsc : ScanR f.b Ls u n) (hn : n = 0 ∨ n = 2) (hc : u < f.b.length → (cutD D s u).2 = 0) (HN : Nibs w) :
    Calls Tryd.prog 24 #[.pointer (some ⟨db, 0, none⟩), .string s] w (OpenTo base w db mb L s (if u < f.b.length then (cutD D s u).1 else D) Ls u) := by
  have hre : readA D s = (f.b, 0) := by unfold readA; rw [hd, hf]; rfl
  have HRD := Lib.hid (dRead_any base db mb L D s hs w h)
  have hfb : ∀ x ∈ f.b, x < 256 := h.ok.byte (s, f) (getM_mem hf)
  have HSC := Lib.hid (And.intro hsc (And.intro hn (And.intro hfb (And.intro hc hs))))
  have hub := (hsc.lt hfb).2
  have HU := Lib.hid hub
  rw [hre] at HRD
  have HH := Lib.hid (And.intro h HN)
  obtain ⟨D', hD'⟩ : ∃ D', D' = (if u < f.b.length then (cutD D s u).1 else D) := ⟨_, rfl⟩
  rw [← hD']
  obtain ⟨m, hm⟩ : ∃ m, m = f.b.length := ⟨_, rfl⟩
  have HM := Lib.hid (And.intro hm hfl)
  rw [← hm] at hD'
  have HDD := Lib.hid hD'
  have hlen := hsc
  clear h hd hf hfl hsc hn hc HN hfb hre hlen hD'
  go_enter Tryd.func24, Tryd.ntmps24
  go_wp2_with fail
  refine HRD.out.mono ?_
  rintro e w1 ⟨a, c, rfl, hmi⟩
  have hcap := own_capB hmi.own
  have hrow := slAt_row8 hmi.at_ HSC.out.2.2.1
  have HREC := Lib.hid (wRecords_any a c f.b HM.out.2 hcap w1 hrow (HH.out.2.kept hmi.kept))
  have HK1 := Lib.hid hmi.kept
  dsimp only
  rw [← HM.out.1] at HREC ⊢
  clear hmi hcap hrow hm
  go_wp2_with fail
  refine HREC.out.mono ?_
  rintro e w2 ⟨Ls2, u2, n2, hsc2, k2, ⟨hn2, v, rfl, hg⟩ | ⟨hn2, rfl⟩⟩
  · obtain ⟨rfl, rfl, rfl⟩ := hsc2.fn HSC.out.1
    have HG := Lib.hid hg
    have HK2 := Lib.hid (HK1.out.trans k2)
    have HSZ := Lib.hid k2.size
    obtain ⟨va, vc, hv, _⟩ := hg
    subst hv
    obtain ⟨q, hq⟩ : ∃ q, q = Ls2.length := ⟨_, rfl⟩
    rw [← hq] at HG ⊢
    have HQ := Lib.hid hq
    have HDK := Lib.hid (HH.out.1.kept HK2.out (fun _ _ x => x))
    have HLT := Lib.hid (fun k (x : foot db mb L k) => (HH.out.1.lt x).1)
    clear hsc2 k2 hn2 hq
    by_cases hu : u2 < m
    · have q1 : (u2 : Int) < (m : Int) := by omega
      have HC := Lib.hid (dCut_any base db mb L D s HSC.out.2.2.2.2 (u2 : Int) w2 HDK.out)
      have hz := HSC.out.2.2.2.1 (by rw [← HM.out.1]; exact hu)
      obtain ⟨r, hr⟩ : ∃ r, r = cutD D s (u2 : Int) := ⟨_, rfl⟩
      have HDR : Hid (D' = r.1) := Lib.hid (by rw [HDD.out, if_pos hu, hr])
      rw [← hr] at HC hz
      have HZ := Lib.hid hz
      clear hr hz hu hub
      go_wp2_with fail
      refine HC.out.mono ?_
      rintro e w3 ⟨L', rfl, h3, k3, f3⟩
      rw [HZ.out]
      have HX := Lib.hid (OpenTo.mk (w := w) (v := .slice va q vc) (u := u2) (B := w1.heap.size) (H := w2.heap.size) (Ls := Ls2) s h3 ((HK2.out.mono (fun _ _ x => x.elim)).trans k3) (fun k x => (f3 k x).imp id (Nat.le_trans HK2.out.size)) HK1.out.size k3.size (HG.out.kept k3 (fun j h1 h2 x => by have := HLT.out j x; have := HK1.out.size; omega)) (fun k x => (f3 k x).imp (fun y => by have := HLT.out k y; have := HK1.out.size; omega) id))
      rw [← HQ.out, ← HDR.out] at HX
      clear h3 k3 f3
      go_wp2
      go_ret3
      exact HX.out
    · have q1 : ¬ (u2 : Int) < (m : Int) := by omega
      have HDR : Hid (D' = D) := Lib.hid (by rw [HDD.out, if_neg hu])
      have HX := Lib.hid (OpenTo.mk (w := w) (v := .slice va q vc) (u := u2) (B := w1.heap.size) (H := w2.heap.size) (Ls := Ls2) s HDK.out (HK2.out.mono (fun _ _ x => x.elim)) (Foot.refl _ _ _ _) HK1.out.size (Nat.le_refl _) HG.out (fun k x => .inl (by have := HLT.out k x; have := HK1.out.size; omega)))
      rw [← HQ.out] at HX
      have HX2 : Hid (OpenTo base w db mb L s D' Ls2 u2 _ _) := Lib.hid (by rw [HDR.out]; exact HX.out)
      clear HX hu hub
      go_wp2
      go_ret3
      exact HX2.out
  · obtain ⟨rfl, rfl, rfl⟩ := hsc2.fn HSC.out.1
    exact absurd HSC.out.2.1 (fun e => e.elim hn2.1 hn2.2)
set_option maxRecDepth 100000 in
set_option maxHeartbeats 4000000 in
theorem wOpen_bad (base db mb : Nat) (L : List (ByteArray × Fi)) (D : DA) (s : ByteArray) (hs : s.size ≤ maxLen) (f : PF) (Ls : List (List Nat)) (u n : Nat) (w : World) (h : DK base w db mb L D) (hd : D.down = false) (hf : getM D.L s = some f) (hfl : f.b.length ≤ 1000000000) (hsc : ScanR f.b Ls u n) (hn : n ≠ 0 ∧ n ≠ 2) (HN : Nibs w) :
    Calls Tryd.prog 24 #[.pointer (some ⟨db, 0, none⟩), .string s] w fun e w' => e = .returned (.tuple #[.pointer none, .slice none 0 0, .int .i64 15]) ∧ Kept (fun _ => False) w w' := by
  have hre : readA D s = (f.b, 0) := by unfold readA; rw [hd, hf]; rfl
  have HRD := Lib.hid (dRead_any base db mb L D s hs w h)
  have hfb : ∀ x ∈ f.b, x < 256 := h.ok.byte (s, f) (getM_mem hf)
  have HSC := Lib.hid (And.intro hsc (And.intro hn hfb))
  rw [hre] at HRD
  have HH := Lib.hid (And.intro h HN)
  obtain ⟨m, hm⟩ : ∃ m, m = f.b.length := ⟨_, rfl⟩
  have HM := Lib.hid (And.intro hm hfl)
  clear h hd hf hfl hsc hn HN hfb hre
  go_enter Tryd.func24, Tryd.ntmps24
  go_wp2_with fail
  refine HRD.out.mono ?_
  rintro e w1 ⟨a, c, rfl, hmi⟩
  have hcap := own_capB hmi.own
  have hrow := slAt_row8 hmi.at_ HSC.out.2.2
  have HREC := Lib.hid (wRecords_any a c f.b HM.out.2 hcap w1 hrow (HH.out.2.kept hmi.kept))
  have HK1 := Lib.hid hmi.kept
  dsimp only
  rw [← HM.out.1] at HREC ⊢
  clear hmi hcap hrow hm
  go_wp2_with fail
  refine HREC.out.mono ?_
  rintro e w2 ⟨Ls2, u2, n2, hsc2, k2, ⟨hn2, v, rfl, hg⟩ | ⟨hn2, rfl⟩⟩
  · obtain ⟨rfl, rfl, rfl⟩ := hsc2.fn HSC.out.1
    exact absurd hn2 (fun e => e.elim HSC.out.2.1.1 HSC.out.2.1.2)
  · have HK2 := Lib.hid (HK1.out.trans k2)
    clear hsc2 k2 hn2
    go_wp2
    go_ret3
    exact ⟨rfl, HK2.out⟩
theorem Nibs.keptS {S : Nat → Prop} {w w' : World} (h : Nibs w) (hk : Kept S w w') (h0 : ¬ S 0) : Nibs w' := fun j hj => hk.cell (h j hj) h0
theorem DK.no0 {base : Nat} {w : World} {db mb : Nat} {L : List (ByteArray × Fi)} {D : DA} (h : DK base w db mb L D) (hb : 0 < base) : ¬ foot db mb L 0 := fun x => by have := (h.lt x).2; omega
/-- What Open answers of a file that isn't there; r: what making it leaves. -/
def OpenNew (base : Nat) (w : World) (db mb : Nat) (L : List (ByteArray × Fi)) (s : ByteArray) (r : DA × Int) (e : Ending) (w' : World) : Prop :=
  (r.2 = 0 ∧ OpenTo base w db mb L s r.1 [] 0 e w') ∨
  (r.2 ≠ 0 ∧ ∃ L', e = .returned (.tuple #[.pointer none, .slice none 0 0, .int .i64 r.2]) ∧ DK base w' db mb L' r.1 ∧ Kept (foot db mb L) w w' ∧ Foot w db mb L L')
set_option maxRecDepth 100000 in
set_option maxHeartbeats 4000000 in
theorem wOpen_new (base db mb : Nat) (hb0 : 0 < base) (L : List (ByteArray × Fi)) (D : DA) (s : ByteArray) (hs : s.size ≤ maxLen) (w : World) (h : DK base w db mb L D) (hd : D.down = false) (hf : getM D.L s = none) (HN : Nibs w) :
    Calls Tryd.prog 24 #[.pointer (some ⟨db, 0, none⟩), .string s] w (OpenNew base w db mb L s (createD D s)) := by
  have hre : readA D s = ([], 7) := by unfold readA; rw [hd, hf]; rfl
  have HRD := Lib.hid (dRead_any base db mb L D s hs w h)
  rw [hre] at HRD
  have HH := Lib.hid (And.intro h (And.intro HN hs))
  obtain ⟨r, hr⟩ : ∃ r, r = createD D s := ⟨_, rfl⟩
  rw [← hr]
  have HR := Lib.hid hr
  clear h hd hf hre hr HN
  go_enter Tryd.func24, Tryd.ntmps24
  go_wp2_with fail
  refine HRD.out.mono ?_
  rintro e w1 ⟨a, c, rfl, hmi⟩
  have HK1 := Lib.hid hmi.kept
  have hcap := own_capB hmi.own
  have HCAP := Lib.hid hcap
  dsimp only
  simp only [List.length_nil] at hcap ⊢
  have HC := Lib.hid ((dCreate_any base db mb L D s HH.out.2.2 w1 (HH.out.1.kept hmi.kept (fun _ _ x => x))).mono (fun e w' => DTo.pre hmi.kept))
  rw [← HR.out] at HC
  clear hmi hcap
  go_wp2_with fail
  refine HC.out.mono ?_
  rintro e w2 ⟨L', rfl, h2, k2, f2⟩
  obtain ⟨z, hz⟩ : ∃ z : Int, z = r.2 := ⟨_, rfl⟩
  rw [← hz]
  have HZ := Lib.hid hz
  have H2 := Lib.hid (And.intro h2 (And.intro k2 f2))
  have HLT := Lib.hid (fun k (x : foot db mb L' k) => (h2.lt x).1)
  have HN2 : Hid (Nibs w2) := Lib.hid (HH.out.2.1.keptS k2 (HH.out.1.no0 hb0))
  clear h2 k2 f2 hz
  by_cases h0 : z = 0
  · have HREC := Lib.hid (wRecords_any a c [] (by simp) (Nat.zero_le _) w2 (⟨a, c, rfl, by simp, fun j hj => absurd hj (by simp)⟩) HN2.out)
    simp only [List.length_nil] at HREC
    have hz0 : r.2 = 0 := by rw [← HZ.out]; exact h0
    have HR0 := Lib.hid hz0
    subst h0
    clear hz0
    go_wp2_with fail
    refine HREC.out.mono ?_
    rintro e w3 ⟨Ls2, u2, n2, hsc2, k3, ⟨hn2, v, rfl, hg⟩ | ⟨hn2, rfl⟩⟩
    · obtain ⟨rfl, rfl, rfl⟩ := hsc2.fn .done
      have HG := Lib.hid hg
      have HK3 := Lib.hid k3
      obtain ⟨va, vc, hv, _⟩ := hg
      subst hv
      have HX := Lib.hid (OpenTo.mk (w := w) (v := .slice va ([] : List (List Nat)).length vc) (u := 0) (B := w2.heap.size) (H := w3.heap.size) (Ls := []) s (H2.out.1.kept k3 (fun _ _ x => x)) (H2.out.2.1.trans (k3.mono (fun _ _ x => x.elim))) H2.out.2.2 H2.out.2.1.size (Nat.le_refl _) HG.out (fun k x => .inl (HLT.out k x)))
      have HX2 := Lib.hid (show OpenNew base w db mb L s r _ _ from .inl ⟨HR0.out, HX.out⟩)
      simp only [List.length_nil, Int.natCast_zero] at HX2 ⊢
      clear hsc2 k3 hn2 HX
      go_wp2
      go_ret3
      exact HX2.out
    · obtain ⟨rfl, rfl, rfl⟩ := hsc2.fn .done
      exact absurd rfl hn2.1
  · have q0 : (z != 0) = true := by simp [bne, beq_eq_false_iff_ne.2 h0]
    have hz0 : r.2 ≠ 0 := by rw [← HZ.out]; exact h0
    have HR0 := Lib.hid hz0
    clear hz0 h0
    go_wp2
    go_ret3
    exact .inr ⟨HR0.out, L', by rw [← HZ.out]; rfl, H2.out.1, H2.out.2.1, H2.out.2.2⟩
end Go.Proofs.YtficodklidaheaaDoor
