/- Texts put together: SJ. -/
import Derived.Test.YtficodklidaheaaDoorZz22
import Derived.Test.YtficodklidaheaaDoorZz18
import Derived.Deep.RegionLaw
import Derived.Test.YtficodklidaheaaDoorZz27
/- Layer 18: the document's Boot, Arm (written by tools/gen_XSJ.py). -/
namespace Go.Proofs.YtficodklidaheaaDoor
open Go.RowKit
attribute [local go_sem ↓] Go.wp_at_zero Go.wp_at_succ

def bootRf (k : Int) (f : RF) : RF := ⟨f.nm, f.a, f.c, f.b.take (leftF k ⟨f.b, f.s⟩), leftF k ⟨f.b, f.s⟩⟩
def bootRL : List Int → List RF → List RF
  | _, [] => []
  | keep, f :: r => bootRf (keep.headD 0) f :: bootRL keep.tail r
theorem bootRL_t : ∀ (keep : List Int) (L : List RF), (bootRL keep L).map RF.t = bootL keep (L.map RF.t)
  | _, [] => rfl
  | keep, f :: r => by
    unfold bootRL
    rw [List.map_cons, List.map_cons, bootRL_t keep.tail r]
    rfl
theorem bootRL_len (keep : List Int) (L : List RF) : (bootRL keep L).length = L.length := by
  have := congrArg List.length (bootRL_t keep L)
  rw [List.length_map, bootL_len, List.length_map] at this
  exact this
theorem bootRL_get : ∀ (keep : List Int) (L : List RF) (i : Nat) (f : RF), L[i]? = some f → (bootRL keep L)[i]? = some (bootRf (keep.getD i 0) f)
  | _, [], i, f, h => by simp at h
  | keep, q :: r, 0, f, h => by
    simp only [List.getElem?_cons_zero, Option.some.injEq] at h
    subst h
    unfold bootRL
    cases keep <;> rfl
  | keep, q :: r, i + 1, f, h => by
    rw [List.getElem?_cons_succ] at h
    unfold bootRL
    rw [List.getElem?_cons_succ, bootRL_get keep.tail r i f h]
    cases keep <;> rfl
theorem bootRL_mem {keep : List Int} {L : List RF} {f : RF} (h : f ∈ bootRL keep L) : ∃ g ∈ L, ∃ k, f = bootRf k g := by
  obtain ⟨i, hi⟩ := List.mem_iff_getElem?.1 h
  have hl : i < L.length := by
    have := (List.getElem?_eq_some_iff.1 hi).1
    rw [bootRL_len] at this
    exact this
  have := bootRL_get keep L i _ (List.getElem?_eq_getElem hl)
  rw [hi] at this
  exact ⟨_, List.getElem_mem hl, _, Option.some.inj this⟩
theorem step_mineR {ops : Array Oper} {o : Oper} {a : Act} {K : Act → World → Prop} {Q : Exit → Act → World → Prop} {E : Prop} {w : World} (hgd : o.guard = none) (s x : Operand)
    (ho : o.op = .call { callee := .builtin .append, args := #[s, x], argTypes := #[81, 81] })
    (W : World) (v : Value) (L : List RF) (hv : a.eval s = v) (hm : MineG cellsR 3 125 W w v L)
    (y : Value) (M : List RF) (m : Nat) (hmm : M.length = m) (hy : a.eval x = y) (hs : Src Tryd.prog 3 81 y m (flatG cellsR M) w)
    (hl : L.length + m ≤ 1000000000)
    (h : ∀ v' w', MineG cellsR 3 125 W w' v' (L ++ M) → Kept (fun k => v.ownBlock = some k) w w' → (v'.ownBlock = v.ownBlock ∨ v'.ownBlock = some w.heap.size) → K (a.put o.dst v') w') :
    if Region.wanted o (yielded ops a.tmps) = true then Oper.wp Tryd.prog o a w K Q else E := by
  obtain ⟨iI, hiI, hzI0, hzI1, hzI2⟩ := info_parts Tryd.infoR
  refine step_append_src w hgd s x 81 81 ho W.heap.size 125 iI _ 3 48 Tryd.underlying81 hiI hzI0 hzI1 hzI2 rfl v L.length (flatG cellsR L) hv hm.own y m (flatG cellsR M) hy hs (by unfold maxLen; omega) (by omega) hm.kept.size ?_
  intro v' w' hown hg _ hat
  refine h v' w' ⟨by rw [List.length_append, flatG_append, hmm]; exact hown, hm.kept.grown hg (fun k e hlt => ?_)⟩ ((Kept.refl (fun k => v.ownBlock = some k) w).grown hg (fun k e _ => e)) hat
  have := (ownsRow_lt hm.own e).2; omega
theorem SlAt.takeN {w : World} {a : Option Addr} {n c : Nat} {b : List Nat} (h : SlAt w (.slice a n c) (byV b)) {k : Nat} (hk : k ≤ n) : SlAt w (.slice a k c) (byV (b.take k)) := by
  have := h.takeH (k := k) hk
  unfold byV at this ⊢
  rw [List.map_take]
  exact this
theorem RK.booted {w w3 w' : World} {rb cp : Nat} {ao : Option Addr} {L : List RF} {D : DA} (h : RK w rb ao cp L D) (keep : List Int) (k3 : Kept (fun k => k = rb) w w3) {v : Value} (hm : MineG cellsR 3 125 w3 w' v (bootRL keep L)) {a : Option Addr} {c : Nat} (hv : v = .slice a (bootRL keep L).length c)
    (hb : BoxAt w' rb 83 (boxR ao L.length cp { D with down := false, failIn := -1, crashIn := -1 })) :
    RTo w rb ao L ({ D with L := bootL keep D.L, down := false, failIn := -1, crashIn := -1 }, 0) (.returned (.int .i64 0)) (w'.setCell ⟨rb, 0, none⟩ v) := by
  subst hv
  have k5 := kept_set w' rb 0 (.slice a (bootRL keep L).length c)
  have kk : Kept (fun k => k = rb) w (w'.setCell ⟨rb, 0, none⟩ (.slice a (bootRL keep L).length c)) := (k3.trans (hm.kept.mono (fun _ _ x => x.elim))).trans k5
  have hrb := h.box.lt
  have hown : ∀ b, a = some b → w3.heap.size ≤ b.block := fun b e => (ownsRow_lt hm.own (k := b.block) (by rw [e]; rfl)).2
  have hsz := k3.size
  have hok : DOk { D with L := bootL keep D.L, down := false, failIn := -1, crashIn := -1 } := by
    have h1 := files_ok h.ok (bootL_asc h.ok.asc keep) (by rw [bootL_len]; exact h.ok.count) (.inl (bootL_used D.L keep)) (fun p hp => by
      obtain ⟨q, hq, k, e⟩ := bootL_mem hp
      rw [e]
      exact ⟨h.ok.name q hq, bootF_ok (h.ok.sure q hq) (h.ok.byte q hq)⟩)
    exact booted_ok h1
  refine ⟨a, c, bootRL keep L, rfl, ⟨?_, (hm.at_ cfR).keptS k5 (fun b e _ x => ?_), own_cap hm.own, by rw [bootRL_t, h.eq], fun f hf => ?_, hok⟩, kk, fun k e => ?_⟩
  · exact hb.set 0 _
  · have := hown b e
    have x' : b.block = rb := x
    omega
  · obtain ⟨g, hg, k, e⟩ := bootRL_mem hf
    have hs : g.s ≤ g.b.length := h.ok.sure g.t (by rw [← h.eq]; exact List.mem_map.2 ⟨g, hg, rfl⟩)
    have hl := (leftF_le k (f := ⟨g.b, g.s⟩) hs).2
    have hd : SlAt (w'.setCell ⟨rb, 0, none⟩ (.slice a (bootRL keep L).length c)) g.v (byV g.b) := (h.data g hg).1.keptN kk (fun hx j e => h.dataNe hg (byV_ne hx) e)
    have hlen : (g.b.take (leftF k ⟨g.b, g.s⟩)).length = leftF k ⟨g.b, g.s⟩ := by rw [List.length_take]; simp only at hl; omega
    rw [e]
    unfold bootRf RF.v
    simp only [hlen]
    exact ⟨SlAt.takeN hd hl, Nat.le_trans hl (h.data g hg).2⟩
  · rcases e with e | ⟨_, b, e, e2⟩ | ⟨f, hf, h1, h2⟩
    · exact .inl (.inl e)
    · have := hown b e
      exact .inr (by omega)
    · obtain ⟨g, hg, k2, e⟩ := bootRL_mem hf
      refine .inl (.inr (.inr ⟨g, hg, fun x => h1 ?_, ?_⟩))
      · rw [e]; unfold bootRf; rw [x]; simp
      · rw [e] at h2
        unfold bootRf RF.v at h2
        unfold RF.v
        cases hga : g.a <;> rw [hga] at h2 <;> exact h2
theorem ref_left (k : Int) (y n : Nat) (b : List Nat) (hn : n = b.length) (hy : y ≤ n) : (k ≤ 0 → leftF k ⟨b, y⟩ = y) ∧ ((n : Int) - (y : Int) < k → leftF k ⟨b, y⟩ = n) ∧ (0 ≤ k → k ≤ (n : Int) - (y : Int) → ((leftF k ⟨b, y⟩ : Nat) : Int) = (y : Int) + k) ∧ leftF k ⟨b, y⟩ ≤ n := by
  unfold leftF
  simp only
  omega
set_option maxRecDepth 100000 in
theorem refArm_any (after z : Int) (w : World) : Calls Tryd.prog 44 #[.int .i64 after, .int .i64 z] w fun e w' => e = .returned (.int .i64 (if z = 0 then -1 else armN after)) ∧ w = w' := by
  obtain ⟨R, hR⟩ : ∃ R : Int, R = (if z = 0 then -1 else armN after) := ⟨_, rfl⟩
  rw [← hR]
  unfold armN at hR
  by_cases h0 : after < 0
  · have q0 : decide (after < (0 : Int)) = true := decide_eq_true h0
    have HX := Lib.hid (show R = -1 by rw [hR]; split <;> omega)
    clear h0 hR
    go_enter Tryd.func44, Tryd.ntmps44
    go_wp2
    go_ret
    exact ⟨by rw [HX.out]; rfl, rfl⟩
  · have q0 : decide (after < (0 : Int)) = false := decide_eq_false h0
    have q0' : ¬ after < 0 := h0
    by_cases hz : z = 0
    · have q1 : (z == 0) = true := beqT hz
      have HX := Lib.hid (show R = -1 by rw [hR, if_pos hz])
      clear hz hR
      go_enter Tryd.func44, Tryd.ntmps44
      go_wp2
      go_ret
      exact ⟨by rw [HX.out]; rfl, rfl⟩
    · have q1 : (z == 0) = false := beqF hz
      have HX := Lib.hid (show R = after by rw [hR, if_neg hz]; omega)
      clear hz hR
      go_enter Tryd.func44, Tryd.ntmps44
      go_wp2
      go_ret
      exact ⟨by rw [HX.out]; rfl, rfl⟩
set_option maxRecDepth 100000 in
set_option maxHeartbeats 8000000 in
theorem refBoot_any (rb : Nat) (ao : Option Addr) (cp : Nat) (L : List RF) (D : DA) (ka : Option Addr) (kn kc : Nat) (keep : List Int) (hkn : keep.length = kn) (hki : ∀ k ∈ keep, I64 k) (w : World) (h : RK w rb ao cp L D)
    (hkeep : SlAt w (.slice ka kn kc) (vals keep)) (hne : vals keep ≠ [] → ∀ j, (Value.slice ka kn kc).ownBlock = some j → j ≠ rb) :
    Calls Tryd.prog 45 #[.pointer (some ⟨rb, 0, none⟩), .slice ka kn kc] w (RTo w rb ao L (bootD D keep)) := by
  obtain ⟨_, _, c2, _⟩ := h.c
  unfold bootD
  cases hd : D.down with
  | false =>
    rw [hd] at c2
    have HX := Lib.hid (show RTo w rb ao L (D, 16) (.returned (.int .i64 16)) w from ⟨ao, cp, L, rfl, h, Kept.refl _ _, RFoot.refl _ _ _ _⟩)
    clear h hkeep hne hd
    go_enter Tryd.func45, Tryd.ntmps45
    go_wp2
    go_ret
    exact HX.out
  | true =>
    rw [hd] at c2
    rw [if_pos rfl]
    have f2 := h.box.fz 2
    have f4 := h.box.fz 4
    have f5 := h.box.fz 5
    obtain ⟨c0, _, _, _, c4, c5, _⟩ := h.c
    obtain ⟨n, hn⟩ : ∃ n, n = L.length := ⟨_, rfl⟩
    rw [← hn] at c0
    obtain ⟨w3, hw3⟩ : ∃ w3, w3 = ((w.setCell ⟨rb, 2, none⟩ (.bool false)).setCell ⟨rb, 4, none⟩ (.int .i64 (-1))).setCell ⟨rb, 5, none⟩ (.int .i64 (-1)) := ⟨_, rfl⟩
    have k3 : Kept (fun k => k = rb) w w3 := by rw [hw3]; exact ((kept_set w rb 2 _).trans (kept_set _ rb 4 _)).trans (kept_set _ rb 5 _)
    have b3 : BoxAt w3 rb 83 (boxR ao n cp { D with down := false, failIn := -1, crashIn := -1 }) := by rw [hw3, hn]; exact ((h.box.set 2 _).set 4 _).set 5 _
    have HH := Lib.hid (And.intro h (And.intro k3 b3))
    have r3 : GAt cellsR 3 w3 ao L := h.row.keptS k3 (fun a e h0 => by
      obtain ⟨a', e', _, h2⟩ := h.rowBlk (List.length_pos_iff.1 h0)
      rw [e] at e'
      injection e' with e'
      rw [e']
      exact h2)
    have HROW := Lib.hid r3
    have HNL := Lib.hid (show n = L.length ∧ n ≤ 4096 from ⟨hn, by have := h.ok.count; have := h.len; omega⟩)
    have HKP : Hid (SlAt w3 (.slice ka kn kc) (vals keep) ∧ keep.length = kn ∧ ∀ k ∈ keep, I64 k) := Lib.hid ⟨hkeep.keptN k3 (fun h0 j e => hne h0 j e), hkn, hki⟩
    have HW3 := Lib.hid hw3
    have c30 : w3.cell? ⟨rb, 0, none⟩ = some (.slice ao n cp) := b3.cell rfl
    have HC30 := Lib.hid c30
    clear h hkeep hne hd hkn hki hn k3 b3 r3 hw3 c30
    go_enter Tryd.func45, Tryd.ntmps45
    go_upto_region 6 with fail
    rw [← HW3.out]
    go_wp2
    go_loopg [5, 6] n (fun g s5 s6 wr => ∃ i : Nat, i ≤ n ∧ g = n - i ∧ s6 = .int .i64 i ∧ MineG cellsR 3 125 w3 wr s5 ((bootRL keep L).take i))
    case atStart => exact ⟨0, Nat.zero_le _, rfl, rfl, MineG.nil (Kept.refl _ _)⟩
    case round =>
      obtain ⟨i, hin, rfl, rfl, hm⟩ := hrel
      obtain ⟨pa, pc, hpv⟩ := hm.slice
      subst hpv
      have hti : ((bootRL keep L).take i).length = i := by rw [List.length_take, bootRL_len]; have := HNL.out; omega
      have c0r := hm.kept.cell HC30.out (fun x => x)
      have HM := Lib.hid hm
      by_cases hd : i < n
      · have hdi : (i : Int) < (n : Int) := by omega
        have hdd : decide (i < n) = true := decide_eq_true hd
        have HI := Lib.hid hd
        obtain ⟨f, hf⟩ : ∃ f, L[i]? = some f := ⟨_, List.getElem?_eq_getElem (by have := HNL.out; omega)⟩
        obtain ⟨gg, oo, hga, hgc⟩ := (HROW.out.kept hm.kept) (by have := HNL.out; omega)
        subst hga
        have g0 := hgc i f hf 0 (.string f.nm) rfl
        have g1 := hgc i f hf 1 (.slice f.a f.b.length f.c) rfl
        have g2 := hgc i f hf 2 (.int .i64 (f.s : Int)) rfl
        rw [Nat.add_zero] at g0
        have wi : IntKind.i64.wrap ((i : Int) + 1) = ((i + 1 : Nat) : Int) := by have := HNL.out; rw [IntWalk.i64_in _ ⟨by omega, by omega⟩]; omega
        have hbg := bootRL_get keep L i f hf
        have hfm := List.mem_of_getElem? hf
        have hsu : f.s ≤ f.b.length := HH.out.1.ok.sure f.t (by rw [← HH.out.1.eq]; exact List.mem_map.2 ⟨f, hfm, rfl⟩)
        have hub : f.b.length ≤ 4194304 := by
          have hmem : f.t ∈ D.L := by rw [← HH.out.1.eq]; exact List.mem_map.2 ⟨f, hfm, rfl⟩
          have h3 := usedL_del HH.out.1.ok.asc.pair f.t.1
          rw [getM_of HH.out.1.ok.asc.pair (s := f.t.1) (v := f.t.2) hmem] at h3
          have e : szM (some f.t.2) = f.b.length := rfl
          rw [e] at h3
          have := HH.out.1.ok.used
          have := HH.out.1.ok.capR
          omega
        have hcc := (HH.out.1.data f hfm).2
        have htk : (bootRL keep L).take (i + 1) = (bootRL keep L).take i ++ [bootRf (keep.getD i 0) f] := by rw [List.take_add_one, hbg]; rfl
        have HTK := Lib.hid htk
        obtain ⟨nm, fa, fc, fb, fs⟩ := f
        simp only at g0 g1 g2 hsu hub hcc
        obtain ⟨fn, hfn⟩ : ∃ fn, fn = fb.length := ⟨_, rfl⟩
        rw [← hfn] at g1 hsu hub hcc
        have HFN := Lib.hid hfn
        obtain ⟨q, hq⟩ : ∃ q, q = wr.heap.size := ⟨_, rfl⟩
        obtain ⟨wa, hwa⟩ : ∃ wa, wa = wr.alloc (.cells #[.string nm, .slice fa fn fc, .int .i64 (fs : Int)] 125) := ⟨_, rfl⟩
        have ka' : Kept (fun _ => False) wr wa := by rw [hwa]; exact (Kept.refl _ _).alloc _
        have BA : BoxAt wa q 125 #[.string nm, .slice fa fn fc, .int .i64 (fs : Int)] := by rw [hwa, hq]; exact BoxAt.new wr _ _
        have qA0 : wa.cell? ⟨q, 0, none⟩ = some (.string nm) := BA.cell rfl
        have qA1 : wa.cell? ⟨q, 1, none⟩ = some (.slice fa fn fc) := BA.cell rfl
        have qA2 : wa.cell? ⟨q, 2, none⟩ = some (.int .i64 (fs : Int)) := BA.cell rfl
        obtain ⟨Pm, hPm⟩ : ∃ Pm, Pm = (bootRL keep L).take i := ⟨_, rfl⟩
        rw [← hPm] at HM HTK hti ⊢
        rw [hti] at HM ⊢
        have HPM := Lib.hid hti
        have HA := Lib.hid (HM.out.on ka')
        have HW := Lib.hid (And.intro hwa hq)
        obtain ⟨kk, hkk⟩ : ∃ kk, kk = keep.getD i 0 := ⟨_, rfl⟩
        rw [← hkk] at HTK
        obtain ⟨l1, l2, l3, l4⟩ := ref_left kk fs fn fb hfn hsu
        obtain ⟨lf, hlf⟩ : ∃ lf, lf = leftF kk ⟨fb, fs⟩ := ⟨_, rfl⟩
        rw [← hlf] at l1 l2 l3 l4
        have HLF := Lib.hid (And.intro hlf (And.intro l4 (show (fb.take lf).length = lf by rw [List.length_take]; omega)))
        have HKV := Lib.hid hkk
        obtain ⟨iI, hiI, hzI0, hzI1, hzI2⟩ := info_parts Tryd.infoU8
        have hcut := fun w => run_cutH (P := Tryd.prog) Tryd.underlying22 hiI hzI1 fa fn fc lf (by omega) w
        have hcutA := fun w => run_cutHAt (P := Tryd.prog) Tryd.underlying22 hiI hzI1 fa fn fc lf (by omega) w
        have HL1 := Lib.hid l1
        have HL2 := Lib.hid l2
        have HL3 := Lib.hid l3
        have HSUM := Lib.hid (And.intro hsu hub)
        clear hf hgc hbg hfm htk hfn hq hwa ka' BA hPm hkk hlf hd hin hm hti l1 l2 l3 hiI hzI0 hzI1 hzI2
        by_cases hk9 : i < kn
        · have hki : (i : Int) < (kn : Int) := by omega
          have hki' : decide (i < kn) = true := decide_eq_true hk9
          obtain ⟨kg, kof, hka, hkc⟩ := (HKP.out.1.kept HM.out.kept (fun _ _ x => x)).elem (i := i) (u := .int .i64 (keep.getD i 0)) (by have := HKP.out.2.1; exact vals_get (by omega))
          subst hka
          rw [← HKV.out] at hkc
          have hkI : I64 kk := by rw [HKV.out]; exact getD_I64 HKP.out.2.2 i
          unfold I64 at hkI
          by_cases hk0 : (0 : Int) < kk
          · have p0 : decide ((0 : Int) < kk) = true := decide_eq_true hk0
            by_cases hkl : (fn : Int) - (fs : Int) < kk
            · have p1 : decide ((fn : Int) - (fs : Int) < kk) = true := decide_eq_true hkl
              have hlv := HL2.out hkl
              clear hk0 hkl hk9
              replace hlv := hlv.symm
              subst hlv
              go_upto_region 11 with fail
              rw [← HW.out.1, ← HW.out.2]
              have hkcA := ((Kept.refl (fun _ => False) wr).trans (show Kept (fun _ => False) wr wa from by rw [HW.out.1]; exact (Kept.refl _ _).alloc _)).cell hkc (fun x => x)
              go_upto_region 13 with fail
              go_region
              obtain ⟨wb, hwb⟩ : ∃ wb, wb = wa.drew := ⟨_, rfl⟩
              rw [← hwb]
              have kab : Kept (fun _ => False) wa wb := by rw [hwb]; exact (Kept.refl _ _).drew
              have BA : BoxAt wa q 125 #[.string nm, .slice fa fn fc, .int .i64 (fs : Int)] := by rw [HW.out.1, HW.out.2]; exact BoxAt.new wr _ _
              have qB0 : wb.cell? ⟨q, 0, none⟩ = some (.string nm) := (BA.kept kab (fun x => x)).cell rfl
              have qB1 : wb.cell? ⟨q, 1, none⟩ = some (.slice fa fn fc) := (BA.kept kab (fun x => x)).cell rfl
              have HMB := Lib.hid (HA.out.on (kab.trans ((Kept.refl (fun _ => False) wb).drew.alloc (.cells #[.string nm, .slice fa fn fc, .int .i64 (fn : Int)] 125))))
              have HSR := Lib.hid (show Src Tryd.prog 3 81 (.slice (some ⟨wb.drew.heap.size, 0, none⟩) 1 1) 1 (flatG cellsR [(⟨nm, fa, fc, fb.take fn, fn⟩ : RF)]) (wb.drew.alloc (.cells #[.string nm, .slice fa fn fc, .int .i64 (fn : Int)] 125)) by
                have := src_oneG (P := Tryd.prog) cfR Tryd.underlying81 wb.drew (⟨nm, fa, fc, fb.take fn, fn⟩ : RF)
                rw [flatG_one']
                unfold cellsR at this ⊢
                simp only [HLF.out.2.2] at this ⊢
                exact this)
              clear hwb kab BA
              go_upto_region 16 with fail
              go_region_law (refine step_mineR (by rfl) (.tmp 71) (.tmp 80) (by rfl) w3 _ Pm (by rfl) HMB.out _ [(⟨nm, fa, fc, fb.take fn, fn⟩ : RF)] 1 rfl (by rfl) HSR.out (by have := HPM.out; have := HNL.out; have := HI.out; omega) ?_; intro v8 w8 hm8 _ _; have HM8 := Lib.hid hm8; clear hm8)
              all_goals (
                try simp only [Act.put]
                go_wp2
                go_roundg (n - (i + 1))
                case measure => have := HI.out; omega
                case rel => exact ⟨i + 1, HI.out, rfl, rfl, by rw [HTK.out]; unfold bootRf; rw [← HLF.out.1]; exact HM8.out⟩)
            · have p1 : decide ((fn : Int) - (fs : Int) < kk) = false := decide_eq_false hkl
              have hlv := HL3.out (by omega) (by omega)
              clear hk0 hkl hk9
              go_upto_region 11 with fail
              rw [← HW.out.1, ← HW.out.2]
              have hkcA := ((Kept.refl (fun _ => False) wr).trans (show Kept (fun _ => False) wr wa from by rw [HW.out.1]; exact (Kept.refl _ _).alloc _)).cell hkc (fun x => x)
              go_upto_region 13 with fail
              go_region
              obtain ⟨wb, hwb⟩ : ∃ wb, wb = wa.drew := ⟨_, rfl⟩
              rw [← hwb]
              have kab : Kept (fun _ => False) wa wb := by rw [hwb]; exact (Kept.refl _ _).drew
              have BA : BoxAt wa q 125 #[.string nm, .slice fa fn fc, .int .i64 (fs : Int)] := by rw [HW.out.1, HW.out.2]; exact BoxAt.new wr _ _
              have qB0 : wb.cell? ⟨q, 0, none⟩ = some (.string nm) := (BA.kept kab (fun x => x)).cell rfl
              have qB1 : wb.cell? ⟨q, 1, none⟩ = some (.slice fa fn fc) := (BA.kept kab (fun x => x)).cell rfl
              have HMB := Lib.hid (HA.out.on (kab.trans ((Kept.refl (fun _ => False) wb).drew.alloc (.cells #[.string nm, .slice fa lf fc, .int .i64 (lf : Int)] 125))))
              have HSR := Lib.hid (show Src Tryd.prog 3 81 (.slice (some ⟨wb.drew.heap.size, 0, none⟩) 1 1) 1 (flatG cellsR [(⟨nm, fa, fc, fb.take lf, lf⟩ : RF)]) (wb.drew.alloc (.cells #[.string nm, .slice fa lf fc, .int .i64 (lf : Int)] 125)) by
                have := src_oneG (P := Tryd.prog) cfR Tryd.underlying81 wb.drew (⟨nm, fa, fc, fb.take lf, lf⟩ : RF)
                rw [flatG_one']
                unfold cellsR at this ⊢
                simp only [HLF.out.2.2] at this ⊢
                exact this)
              have hkcB := ((Kept.refl (fun _ => False) wa).trans kab).cell hkcA (fun x => x)
              have wks : IntKind.i64.wrap ((fs : Int) + kk) = (lf : Int) := by rw [IntWalk.i64_in _ ⟨by omega, by omega⟩]; omega
              clear hwb kab BA hlv
              go_upto_region 16 with fail
              go_region_law (refine step_mineR (by rfl) (.tmp 71) (.tmp 80) (by rfl) w3 _ Pm (by rfl) HMB.out _ [(⟨nm, fa, fc, fb.take lf, lf⟩ : RF)] 1 rfl (by rfl) HSR.out (by have := HPM.out; have := HNL.out; have := HI.out; omega) ?_; intro v8 w8 hm8 _ _; have HM8 := Lib.hid hm8; clear hm8)
              all_goals (
                try simp only [Act.put]
                go_wp2
                go_roundg (n - (i + 1))
                case measure => have := HI.out; omega
                case rel => exact ⟨i + 1, HI.out, rfl, rfl, by rw [HTK.out]; unfold bootRf; rw [← HLF.out.1]; exact HM8.out⟩)
          · have p0 : decide ((0 : Int) < kk) = false := decide_eq_false hk0
            have hlv := HL1.out (by omega)
            clear hk0 hk9
            replace hlv := hlv.symm
            subst hlv
            go_upto_region 11 with fail
            rw [← HW.out.1, ← HW.out.2]
            obtain ⟨wb, hwb⟩ : ∃ wb, wb = wa := ⟨_, rfl⟩
            have kab : Kept (fun _ => False) wa wb := by rw [hwb]; exact Kept.refl _ _
            have BA : BoxAt wa q 125 #[.string nm, .slice fa fn fc, .int .i64 (fs : Int)] := by rw [HW.out.1, HW.out.2]; exact BoxAt.new wr _ _
            have qB0 : wb.cell? ⟨q, 0, none⟩ = some (.string nm) := (BA.kept kab (fun x => x)).cell rfl
            have qB1 : wb.cell? ⟨q, 1, none⟩ = some (.slice fa fn fc) := (BA.kept kab (fun x => x)).cell rfl
            have HMB := Lib.hid (HA.out.on (kab.trans ((Kept.refl (fun _ => False) wb).drew.alloc (.cells #[.string nm, .slice fa fs fc, .int .i64 (fs : Int)] 125))))
            have HSR := Lib.hid (show Src Tryd.prog 3 81 (.slice (some ⟨wb.drew.heap.size, 0, none⟩) 1 1) 1 (flatG cellsR [(⟨nm, fa, fc, fb.take fs, fs⟩ : RF)]) (wb.drew.alloc (.cells #[.string nm, .slice fa fs fc, .int .i64 (fs : Int)] 125)) by
              have := src_oneG (P := Tryd.prog) cfR Tryd.underlying81 wb.drew (⟨nm, fa, fc, fb.take fs, fs⟩ : RF)
              rw [flatG_one']
              unfold cellsR at this ⊢
              simp only [HLF.out.2.2] at this ⊢
              exact this)
            rw [← hwb]
            have qB2 : wb.cell? ⟨q, 2, none⟩ = some (.int .i64 (fs : Int)) := (BA.kept kab (fun x => x)).cell rfl
            have hkcB := ((Kept.refl (fun _ => False) wr).trans (show Kept (fun _ => False) wr wb from by rw [hwb, HW.out.1]; exact (Kept.refl _ _).alloc _)).cell hkc (fun x => x)
            clear hwb kab BA
            go_upto_region 16 with fail
            go_region_law (refine step_mineR (by rfl) (.tmp 71) (.tmp 80) (by rfl) w3 _ Pm (by rfl) HMB.out _ [(⟨nm, fa, fc, fb.take fs, fs⟩ : RF)] 1 rfl (by rfl) HSR.out (by have := HPM.out; have := HNL.out; have := HI.out; omega) ?_; intro v8 w8 hm8 _ _; have HM8 := Lib.hid hm8; clear hm8)
            all_goals (
              try simp only [Act.put]
              go_wp2
              go_roundg (n - (i + 1))
              case measure => have := HI.out; omega
              case rel => exact ⟨i + 1, HI.out, rfl, rfl, by rw [HTK.out]; unfold bootRf; rw [← HLF.out.1]; exact HM8.out⟩)
        · have hki : ¬ (i : Int) < (kn : Int) := by omega
          have hki' : decide (i < kn) = false := decide_eq_false hk9
          have hlv := HL1.out (by rw [HKV.out, List.getD_eq_getElem?_getD, List.getElem?_eq_none (by have := HKP.out.2.1; omega)]; exact Int.le_refl _)
          clear hk9
          replace hlv := hlv.symm
          subst hlv
          go_upto_region 11 with fail
          rw [← HW.out.1, ← HW.out.2]
          obtain ⟨wb, hwb⟩ : ∃ wb, wb = wa := ⟨_, rfl⟩
          have kab : Kept (fun _ => False) wa wb := by rw [hwb]; exact Kept.refl _ _
          have BA : BoxAt wa q 125 #[.string nm, .slice fa fn fc, .int .i64 (fs : Int)] := by rw [HW.out.1, HW.out.2]; exact BoxAt.new wr _ _
          have qB0 : wb.cell? ⟨q, 0, none⟩ = some (.string nm) := (BA.kept kab (fun x => x)).cell rfl
          have qB1 : wb.cell? ⟨q, 1, none⟩ = some (.slice fa fn fc) := (BA.kept kab (fun x => x)).cell rfl
          have HMB := Lib.hid (HA.out.on (kab.trans ((Kept.refl (fun _ => False) wb).drew.alloc (.cells #[.string nm, .slice fa fs fc, .int .i64 (fs : Int)] 125))))
          have HSR := Lib.hid (show Src Tryd.prog 3 81 (.slice (some ⟨wb.drew.heap.size, 0, none⟩) 1 1) 1 (flatG cellsR [(⟨nm, fa, fc, fb.take fs, fs⟩ : RF)]) (wb.drew.alloc (.cells #[.string nm, .slice fa fs fc, .int .i64 (fs : Int)] 125)) by
            have := src_oneG (P := Tryd.prog) cfR Tryd.underlying81 wb.drew (⟨nm, fa, fc, fb.take fs, fs⟩ : RF)
            rw [flatG_one']
            unfold cellsR at this ⊢
            simp only [HLF.out.2.2] at this ⊢
            exact this)
          rw [← hwb]
          have qB2 : wb.cell? ⟨q, 2, none⟩ = some (.int .i64 (fs : Int)) := (BA.kept kab (fun x => x)).cell rfl
          clear hwb kab BA
          go_upto_region 16 with fail
          go_region_law (refine step_mineR (by rfl) (.tmp 71) (.tmp 80) (by rfl) w3 _ Pm (by rfl) HMB.out _ [(⟨nm, fa, fc, fb.take fs, fs⟩ : RF)] 1 rfl (by rfl) HSR.out (by have := HPM.out; have := HNL.out; have := HI.out; omega) ?_; intro v8 w8 hm8 _ _; have HM8 := Lib.hid hm8; clear hm8)
          all_goals (
            try simp only [Act.put]
            go_wp2
            go_roundg (n - (i + 1))
            case measure => have := HI.out; omega
            case rel => exact ⟨i + 1, HI.out, rfl, rfl, by rw [HTK.out]; unfold bootRf; rw [← HLF.out.1]; exact HM8.out⟩)
      · have hdi : ¬ (i : Int) < (n : Int) := by omega
        have hdd : decide (i < n) = false := decide_eq_false hd
        have HE : Hid ((bootRL keep L).take i = bootRL keep L) := Lib.hid (List.take_of_length_le (by rw [bootRL_len]; have := HNL.out; omega))
        rw [HE.out] at HM hti ⊢
        have hm' := HM.out
        have br := HH.out.2.2.kept hm'.kept (fun x => x)
        have f0 := br.fz 0
        have HR := Lib.hid (HH.out.1.booted keep HH.out.2.1 hm' rfl (by rw [← HNL.out.1]; exact br))
        clear hd hin hm hm' br hti
        go_wp2
        go_ret
        exact HR.out
end Go.Proofs.YtficodklidaheaaDoor
