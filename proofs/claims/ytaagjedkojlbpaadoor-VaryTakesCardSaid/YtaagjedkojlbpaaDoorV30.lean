/- Layer 6: the walk of 'VaryTakes'. -/
import Derived.Test.YtaagjedkojlbpaaDoorV29
import Derived.Deep.CutBlock
namespace Go.Proofs.YtaagjedkojlbpaaDoor
open Go.RowKit
attribute [local go_sem ↓] Go.wp_at_zero Go.wp_at_succ

theorem row_zero (l : List Int) : (l.length : Int) = 0 → lastA l l.length = 0 := by
  intro e
  have h0 : l.length = 0 := by omega
  rw [h0]; rfl
theorem getD_snoc_lt (l : List Int) (x : Int) (i : Nat) (h : i < l.length) : (l ++ [x]).getD i 0 = l.getD i 0 := by
  simp only [List.getD_eq_getElem?_getD]; rw [List.getElem?_append_left h]
theorem getD_snoc (l : List Int) (x : Int) : (l ++ [x]).getD l.length 0 = x := by simp [List.getD_eq_getElem?_getD]
theorem lastA_snoc (l : List Int) (x : Int) (i : Nat) (h : i ≤ l.length) : lastA (l ++ [x]) i = lastA l i := by
  unfold lastA
  by_cases h0 : i = 0
  · rw [if_pos h0, if_pos h0]
  · rw [if_neg h0, if_neg h0, getD_snoc_lt _ _ _ (by omega)]
theorem stepA_snoc (l : List Int) (x : Int) (i : Nat) (h : i ≤ l.length) : stepA (l ++ [x]) i = stepA l i := by
  unfold stepA
  by_cases h0 : i < 2
  · rw [if_pos h0, if_pos h0]
  · rw [if_neg h0, if_neg h0, getD_snoc_lt _ _ _ (by omega), getD_snoc_lt _ _ _ (by omega)]
theorem rowB_snoc_lt (l : List Int) (x : Int) (i : Nat) (h : i ≤ l.length) : rowB (l ++ [x]) i = rowB l i := by
  induction i with
  | zero => rfl
  | succ i ih => simp only [rowB]; rw [ih (by omega), lastA_snoc _ _ _ (by omega), stepA_snoc _ _ _ (by omega), getD_snoc_lt _ _ _ (by omega)]
theorem rowB_snoc (l : List Int) (x : Int) : rowB (l ++ [x]) (l.length + 1) = rowB l l.length ++ nextB l.length (lastA l l.length) (stepA l l.length) x := by
  simp only [rowB]; rw [rowB_snoc_lt _ _ _ (Nat.le_refl _), lastA_snoc _ _ _ (Nat.le_refl _), stepA_snoc _ _ _ (Nat.le_refl _), getD_snoc]

theorem Got3.same_ {S : Nat → Prop} {w w' : World} {q : Nat} {V N E : Int} (h : Got3 w q V N E) (hk : Kept S w w') (hn : ¬ S q) : Got3 w' q V N E := hk.same h hn
/-- What holds while numbers are taken. -/
structure Tk (W w : World) (p r : Nat) (rv : Value) (bs : List Bool) (t : Nat) (rw_ : List Int) (lv v9 : Value) : Prop where
  rr : RRow W w p r rv bs t rw_.length (lastA rw_ rw_.length) (stepA rw_ rw_.length)
  ml : Mine W w 3 lv (ints bs)
  mr : Mine W w 3 v9 (vals rw_)
  nm : ∀ k, lv.ownBlock = some k → v9.ownBlock ≠ some k
  eq : rowB rw_ rw_.length = bs.take t
  i64 : ∀ x ∈ rw_, I64 x
  tl : t ≤ bs.length
section
variable {W w w' : World} {p r t N : Nat} {rv lv v9 v9' : Value} {bs : List Bool} {rw_ : List Int} {X : Int}
theorem Tk.on (h : Tk W w p r rv bs t rw_ lv v9) (hk : Kept (fun _ => False) w w') : Tk W w' p r rv bs t rw_ lv v9 := ⟨h.rr.on hk, h.ml.on hk, h.mr.on hk, h.nm, h.eq, h.i64, h.tl⟩
theorem own_box {B : Nat} {v : Value} {xs : List Value} {n s : Nat} {T E : TypeId} {cs : Array Value} {fr : Nat × Nat} {k : Nat} (ho : w.ownsRow B E s v n xs) (hb : w.heap[k]? = some (.cells cs T fr)) (hne : E ≠ T) : v.ownBlock ≠ some k := by
  intro e
  obtain ⟨cur, hc⟩ := ownsRow_block ho e
  rw [hb] at hc
  injection hc with this; injection this with _ e _
  exact hne e.symm
theorem Tk.add (h : Tk W w p r rv bs t rw_ lv v9) (hE : (nextGot rw_.length (lastA rw_ rw_.length) (stepA rw_ rw_.length) (bs.drop t)) = (X, N, 0)) (hN : t + N ≤ bs.length)
    {w1 : World} (hr : RRow W w1 p r rv bs (t + N) ((rw_.length : Int) + 1) X (stepOf rw_.length (lastA rw_ rw_.length) (stepA rw_ rw_.length) X)) (hl1 : Mine W w1 3 lv (ints bs)) (hm1 : Mine W w1 3 v9 (vals rw_))
    (hm : Mine W w' 3 v9' (vals rw_ ++ [.int .i64 X])) (hk : Kept (fun k => v9.ownBlock = some k) w1 w') (ha : v9'.ownBlock = v9.ownBlock ∨ v9'.ownBlock = some w1.heap.size) : Tk W w' p r rv bs (t + N) (rw_ ++ [X]) lv v9' := by
  have hn := nextB_got rw_.length (lastA rw_ rw_.length) (stepA rw_ rw_.length) (bs.drop t) (by omega) (row_zero rw_) (by rw [hE])
  rw [hE] at hn
  simp only at hn
  have hX : I64 X := by have := nextGot_I64 rw_.length (lastA rw_ rw_.length) (stepA rw_ rw_.length) (bs.drop t); rw [hE] at this; exact this
  have e1 : (rw_ ++ [X]).length = rw_.length + 1 := by simp
  have hp := own_box hm1.own hr.rd.box (by decide)
  have hq := own_box hm1.own hr.row (by decide)
  have hv : ∀ k, rv.ownBlock = some k → v9.ownBlock ≠ some k := fun k e e2 => by
    obtain ⟨cur, hc⟩ := ownsRow_block hr.rd.owns e
    exact own_box hm1.own hc (by decide) e2
  refine ⟨⟨hr.rd.kept hk hp (fun k e x => hv k e x), ?_, hr.base, hm.kept⟩, hl1.keptS hk (fun k e x => h.nm k e x) (fun k e => (ownsRow_lt hm1.own e).2), ?_, ?_, ?_, ?_, hN⟩
  · rw [e1]
    have e2 : lastA (rw_ ++ [X]) (rw_.length + 1) = X := by rw [lastA_succ, getD_snoc]
    have e3 : stepA (rw_ ++ [X]) (rw_.length + 1) = stepOf rw_.length (lastA rw_ rw_.length) (stepA rw_ rw_.length) X := by
      rw [stepA_succ, getD_snoc, lastA_snoc _ _ _ (Nat.le_refl _), stepA_snoc _ _ _ (Nat.le_refl _)]
    rw [e2, e3]
    have := hr.row.kept hk hq
    simpa using this
  · have : vals (rw_ ++ [X]) = vals rw_ ++ [.int .i64 X] := by simp [vals]
    rw [this]; exact hm
  · intro k e e2
    rcases ha with ha | ha
    · exact h.nm k e (ha ▸ e2)
    · rw [ha] at e2; cases e2
      exact absurd (ownsRow_lt hl1.own e).1 (by omega)
  · rw [e1, rowB_snoc, h.eq, hn, List.take_add]
  · intro x hx
    rcases List.mem_append.1 hx with h1 | h1
    · exact h.i64 x h1
    · rw [List.mem_singleton] at h1; rw [h1]; exact hX
end

theorem rowGetYK (W w : World) (p r : Nat) (v : Value) (bs : List Bool) (t : Nat) (n last step X : Int) (N : Nat) (h : RRow W w p r v bs t n last step) (HT : Tabs W) (hn : 0 ≤ n) (hn2 : n ≤ 1000000) (hl : bs.length ≤ 100000000) (hg : nextGot n last step (bs.drop t) = (X, N, 0)) :
    Calls Tryd.prog 31 #[.pointer (some ⟨r, 0, none⟩), .pointer (some ⟨p, 0, none⟩)] w fun e w' => e = .returned (.tuple #[.int .i64 X, .int .i64 0]) ∧ RRow W w' p r v bs (t + N) (n + 1) X (stepOf n last step X) ∧ Kept (fun k => k = p ∨ k = r) w w' := by
  have := rowGet_yes W.heap.size p r v bs t n last step w h.rd h.row h.ne.1 h.ne.2 h.kept.size HT.lt hl (HT.kept h.kept) hn hn2 (by rw [hg])
  rw [hg] at this
  exact this.mono fun _ _ g => ⟨(h.got g).1, (h.got g).2, g.2.2.2⟩
theorem rowGetNK (W w : World) (p r : Nat) (v : Value) (bs : List Bool) (t : Nat) (n last step : Int) (E : Nat) (h : RRow W w p r v bs t n last step) (HT : Tabs W) (hl : bs.length ≤ 100000000) (hE : E ≠ 0) (hg : (nextGot n last step (bs.drop t)).2.2 = E) :
    Calls Tryd.prog 31 #[.pointer (some ⟨r, 0, none⟩), .pointer (some ⟨p, 0, none⟩)] w fun e w' => e = .returned (.tuple #[.int .i64 0, .int .i64 (E : Int)]) ∧ RRow W w' p r v bs t n last step ∧ Kept (fun k => k = p ∨ k = r) w w' := by
  have := rowGet_no W.heap.size p r v bs t n last step w h.rd h.row h.ne.1 h.kept.size HT.lt hl (HT.kept h.kept) (by rw [hg]; exact hE)
  rw [hg] at this
  exact this.mono fun _ _ g => ⟨(h.gotNo g).1, (h.gotNo g).2, g.2.2.2.mono fun _ _ e => .inl e⟩
theorem Tk.keptPR {W w w' : World} {p r t t' : Nat} {rv lv v9 : Value} {bs : List Bool} {rw_ : List Int} {n last step : Int} (h : Tk W w p r rv bs t rw_ lv v9) (hr : RRow W w p r rv bs t' n last step) (hk : Kept (fun k => k = p ∨ k = r) w w') : Mine W w' 3 lv (ints bs) ∧ Mine W w' 3 v9 (vals rw_) := by
  have hs : ∀ k, (k = p ∨ k = r) → W.heap.size ≤ k := by
    rintro k (rfl | rfl)
    · exact hr.rd.base
    · exact hr.base
  refine ⟨h.ml.keptS hk ?_ hs, h.mr.keptS hk ?_ hs⟩
  · rintro k e (rfl | rfl)
    · exact own_box h.ml.own hr.rd.box (by decide) e
    · exact own_box h.ml.own hr.row (by decide) e
  · rintro k e (rfl | rfl)
    · exact own_box h.mr.own hr.rd.box (by decide) e
    · exact own_box h.mr.own hr.row (by decide) e
theorem Tk.same {W w w' : World} {p r t : Nat} {rv lv v9 : Value} {bs : List Bool} {rw_ : List Int} (h : Tk W w p r rv bs t rw_ lv v9) (hr : RRow W w' p r rv bs t rw_.length (lastA rw_ rw_.length) (stepA rw_ rw_.length)) (hk : Kept (fun k => k = p ∨ k = r) w w') : Tk W w' p r rv bs t rw_ lv v9 :=
  ⟨hr, (h.keptPR h.rr hk).1, (h.keptPR h.rr hk).2, h.nm, h.eq, h.i64, h.tl⟩

set_option maxHeartbeats 4000000 in
set_option maxRecDepth 100000 in
theorem varyTakes_walk0 (ao : Option Addr) (ca : Nat) (l : List Nat) (n : Nat) (W : World) (hv : SlAt W (.slice ao l.length ca) (bys l)) (hl : l.length ≤ 60) (hb : ∀ x ∈ l, x < 256) (hn : n ≤ 100) (HT : Tabs W) :
    Calls Tryd.prog 6 #[.slice ao l.length ca, .int .i64 n] W fun e w' => e = .returned (.bool true) ∧ Kept (fun _ => False) W w' := by
  obtain ⟨iI, hiI, hzI0, hzI1, hzI2⟩ := info_parts Tryd.infoInt
  have HAW := Lib.hid (awake6_any W HT)
  have HTT := Lib.hid HT
  have hlt := HT.lt
  have q60 : ¬ (60 : Int) < (l.length : Int) := by omega
  have q60b : decide (60 < l.length) = false := decide_eq_false (by omega)
  have q61 : ¬ (n : Int) < 0 := by omega
  have q62 : ¬ (100 : Int) < (n : Int) := by omega
  have q62b : decide (100 < n) = false := decide_eq_false (by omega)
  have HOP := Lib.hid fun w' (h : Kept (fun _ => False) W w') => bopen_yes _ l (8 * l.length) w' (hv.kept h (fun _ _ x => x)) (by omega) hb (openE_all l)
  have HBT := Lib.hid fun w' (h : Kept (fun _ => False) W w') => refBits_any _ l w' (hv.kept h (fun _ _ x => x)) (by omega) hb
  rw [show (bitsOf l).take (8 * l.length) = bitsOf l from List.take_of_length_le (by rw [bitsOf_length]; exact Nat.le_refl _)] at HOP
  have hbl := bitsOf_length l
  obtain ⟨bs, hbs⟩ : ∃ bs, bs = bitsOf l := ⟨_, rfl⟩
  rw [← hbs] at HOP HBT hbl
  obtain ⟨N, hN⟩ : ∃ N, N = 8 * l.length := ⟨_, rfl⟩
  have n1 : 8 * (l.length : Int) = (N : Int) := by omega
  have n2 : IntKind.i64.wrap (8 * (l.length : Int)) = (N : Int) := by rw [n1]; exact IntWalk.i64_in _ ⟨by omega, by omega⟩
  rw [← hN] at HOP hbl
  have HBL := Lib.hid hbl
  have HNN := Lib.hid hN
  have HBN := Lib.hid bnew_any
  have HRN := Lib.hid newRow_any
  clear HT hv hb hbs hN hbl
  go_enter Tryd.func6, Tryd.ntmps6
  go_wp2_with fail
  refine HAW.out.mono ?_
  rintro e w0 ⟨rfl, k0⟩
  have K0 := Lib.hid k0
  clear k0
  go_wp2_with fail
  refine (HOP.out _ K0.out).mono ?_
  rintro e w1 ⟨p, rv, rfl, hr, k1⟩
  have K1 := Lib.hid (K0.out.trans k1)
  have HR := Lib.hid (hr.down (Kept.size K0.out))
  clear hr k1
  go_wp2_with fail
  refine (HBT.out _ K1.out).mono ?_
  rintro e w2 ⟨lv, rfl, ho, k2⟩
  obtain ⟨lo, lc, rfl⟩ := ownsRow_slice ho
  have hcap := own_cap ho
  have hm : Mine W w2 3 (.slice lo (ints bs).length lc) (ints bs) := (Mine.ofFresh ho k2).down K1.out
  rw [ints_length] at hm hcap
  rw [ints_length]
  have HM := Lib.hid (show Mine W w2 3 (.slice lo bs.length lc) (ints bs) from hm)
  have HR2 := Lib.hid (HR.out.keptF k2)
  rw [HBL.out] at HM hcap ⊢
  clear ho k2 hm
  go_wp2_with fail
  refine (HRN.out w2).mono ?_
  rintro e w3 ⟨rfl, hr3, k3⟩
  obtain ⟨r, hr1⟩ : ∃ r, r = w2.heap.size := ⟨_, rfl⟩
  have HTK := Lib.hid (show Tk W w3 p r rv bs 0 [] (.slice lo N lc) (.slice none 0 0) from
    ⟨⟨HR2.out.keptF k3, by rw [hr1]; exact hr3, by rw [hr1]; exact HM.out.kept.size, HM.out.kept.trans k3⟩, HM.out.on k3, Mine.nil' _ (HM.out.kept.trans k3), (fun k _ e => by cases e), rfl, (fun x h => by cases h), Nat.zero_le _⟩)
  rw [← hr1]
  clear hr1 hr3 k3 HM HR2 HR
  go_upto_block 0 with fail
  go_cut [9, 10] (fun s9 s10 wc => ∃ (t : Nat) (rw_ : List Int), rw_.length ≤ 100 ∧ s10 = .int .i64 t ∧ Tk W wc p r rv bs t rw_ (.slice lo N lc) s9)
  case first =>
    go_wp2
    go_loopg [9, 10, 11] n (fun g s9 s10 s11 wr => ∃ (t : Nat) (rw_ : List Int), rw_.length ≤ n ∧ g = n - rw_.length ∧ s11 = .int .i64 rw_.length ∧ s10 = .int .i64 t ∧ Tk W wr p r rv bs t rw_ (.slice lo N lc) s9)
    case atStart => exact ⟨0, [], Nat.zero_le _, rfl, rfl, rfl, HTK.out⟩
    case round =>
      obtain ⟨t, rw_, hil, rfl, rfl, rfl, htk⟩ := hrel
      have HI := Lib.hid htk
      clear htk HTK
      obtain ⟨a9, c9, e9⟩ := HI.out.mr.slice
      rw [vals_length] at e9
      subst e9
      obtain ⟨m, hm⟩ : ∃ m, m = rw_.length := ⟨_, rfl⟩
      have HMM := Lib.hid hm
      by_cases hd : m < n
      · have hdi : (m : Int) < (n : Int) := by omega
        have HD := Lib.hid hd
        obtain ⟨T, hT⟩ : ∃ T, T = N - t := ⟨_, rfl⟩
        have htN : t ≤ N := by have := HI.out.tl; have := HBL.out; omega
        have hct := HI.out.ml.at_.cutL (lo := t) htN hcap
        obtain ⟨ao2, hao2⟩ : ∃ a : Option Addr, a = if lc = t then lo else lo.map (·.add t) := ⟨_, rfl⟩
        rw [← hao2, ← hT] at hct
        have s1 : ∀ w, (Instr.slice 26 (.slice lo N lc) (some (.int .i64 (t : Int))) none none).run Tryd.prog w = .ok (.slice ao2 T (lc - t)) w := fun w => by
          have := run_cutL (P := Tryd.prog) Tryd.underlying26 hiI hzI1 lo N lc t htN w
          rw [← hao2, ← hT] at this; exact this
        have s2 : ∀ w, (Instr.sliceAt 26 (.slice lo N lc) (some (.int .i64 (t : Int))) none none).run Tryd.prog w = .ok (.slice ao2 T (lc - t)) w := fun w => by
          have := run_cutLAt (P := Tryd.prog) Tryd.underlying26 hiI hzI1 lo N lc t htN w
          rw [← hao2, ← hT] at this; exact this
        have hbx : (ints bs).drop t = ints (bs.drop t) := by unfold ints; rw [List.map_drop]
        rw [hbx] at hct
        have HNX := Lib.hid (refNext_any _ _ rw_ (bs.drop t) wr HI.out.mr.at_ (by omega) HI.out.i64 hct (by rintro a n c e; injection e with e1 e2 e3; omega) (by rw [List.length_drop, HBL.out]; have := HNN.out; omega))
        have hnle := nextGot_le rw_.length (lastA rw_ rw_.length) (stepA rw_ rw_.length) (bs.drop t)
        rw [List.length_drop, HBL.out] at hnle
        have hnE := nextGot_E rw_.length (lastA rw_ rw_.length) (stepA rw_ rw_.length) (bs.drop t)
        obtain ⟨V, hV⟩ : ∃ V, V = nextV rw_.length (lastA rw_ rw_.length) (stepA rw_ rw_.length) (bs.drop t) := ⟨_, rfl⟩
        obtain ⟨G, hG⟩ : ∃ G, G = nextGot rw_.length (lastA rw_ rw_.length) (stepA rw_ rw_.length) (bs.drop t) := ⟨_, rfl⟩
        rw [← hV, ← hG] at HNX
        rw [← hG] at hnle hnE
        obtain ⟨X, M, E⟩ := G
        simp only at HNX hnle hnE
        have hV2 : V = if E = 0 then uN X else 0 := by rw [hV]; unfold nextV; rw [← hG]
        have HGG := Lib.hid hG
        have hbl8 : bs.length ≤ 100000000 := by have := HBL.out; have := HNN.out; omega
        by_cases hE0 : E = 0
        · subst hE0
          rw [if_pos rfl] at hV2
          have HGY := Lib.hid fun w' (h : Kept (fun _ => False) wr w') => rowGetYK W w' p r rv bs t _ _ _ X M (HI.out.on h).rr HTT.out (by omega) (by omega) hbl8 HGG.out.symm
          rw [← hm] at HGY HNX ⊢
          have hux := uN_u64 X
          rw [← hV2] at hux
          obtain ⟨t2, ht2⟩ : ∃ t2, t2 = t + M := ⟨_, rfl⟩
          have a1 : (t : Int) + (M : Int) = (t2 : Int) := by omega
          have a2 : IntKind.i64.wrap ((t : Int) + (M : Int)) = (t2 : Int) := by rw [a1]; exact IntWalk.i64_in _ ⟨by omega, by have := HNN.out; omega⟩
          have a3 : IntKind.i64.wrap (t2 : Int) = (t2 : Int) := IntWalk.i64_in _ ⟨by omega, by have := HNN.out; omega⟩
          have HT2E := Lib.hid ht2
          have HT2N := Lib.hid (show t2 ≤ N by omega)
          have ev : ((V : Int) != (V : Int)) = false := by simp
          have et : ((t2 : Int) != (t2 : Int)) = false := by simp
          have hmn : m ≤ 100 := by omega
          clear hT hct hao2 hbx hV hG hV2 ht2 hd hnle hnE htN hm
          go_wp2_with fail
          refine HNX.out.mono ?_
          rintro e w4 ⟨rfl, k4⟩
          have k5 := k4.alloc (.cells #[.int .u64 (V : Int), .int .i64 (M : Int), .int .i64 0] 44)
          obtain ⟨w5, hw5⟩ : ∃ w5, w5 = w4.alloc (.cells #[.int .u64 (V : Int), .int .i64 (M : Int), .int .i64 0] 44) := ⟨_, rfl⟩
          have g5 : Got3 w5 w4.heap.size V M 0 := by rw [hw5]; exact heap_alloc_new w4 _
          have hqp : w4.heap.size ≠ p := by have := HI.out.rr.rd.lt; have := k4.size; omega
          have hqr : w4.heap.size ≠ r := by have := HI.out.rr.row.lt; have := k4.size; omega
          rw [← hw5] at k5
          have K5 := Lib.hid k5
          have G5 := Lib.hid g5
          have HW5 := Lib.hid hw5
          clear hw5 k4 k5 g5
          go_wp2_with fail
          rw [← HW5.out]
          refine (HGY.out w5 K5.out).mono ?_
          rintro e w6 ⟨rfl, h6, k6⟩
          have HK6 := Lib.hid k6
          have H6 := Lib.hid h6
          have g6 : Got3 w6 w4.heap.size V M 0 := G5.out.same_ k6 (fun e => e.elim hqp hqr)
          have hm6 := (HI.out.on K5.out).keptPR (HI.out.on K5.out).rr k6
          have HM6 := Lib.hid hm6
          obtain ⟨⟨d0, d1, d2⟩, _⟩ := g6.c
          have hd2 : w6.cell? ⟨w4.heap.size, 2, none⟩ = some (.int .i64 0) := d2
          have HAT := Lib.hid fun nq => show Calls Tryd.prog 25 #[.pointer (some ⟨p, 0, none⟩)] (w6.drewN nq) (fun e w' => e = .returned (.int .i64 (t2 : Int)) ∧ w' = w6.drewN nq) from (bat_any W.heap.size p rv bs t2 (w6.drewN nq) (by have := H6.out.rd; rw [← HT2E.out] at this; exact this.drewN nq)).mono fun _ _ h => ⟨h.1, h.2.symm⟩
          clear k6 h6 g6 hm6 d2
          go_wp2
          go_quiet ((go_at_call 25; exact Calls.quiet_of_same (HAT.out _)))
          obtain ⟨w7, hw7⟩ : ∃ w7, w7 = w6.drewN nq := ⟨_, rfl⟩
          have K7 : Kept (fun _ => False) w6 w7 := by rw [hw7]; exact (Kept.refl _ _).drewN _
          have H7 := Lib.hid (H6.out.on K7)
          have HM7 := Lib.hid (show Mine W w7 3 (.slice lo N lc) (ints bs) ∧ Mine W w7 3 (.slice a9 m c9) (vals rw_) from ⟨HM6.out.1.on K7, by rw [HMM.out]; exact HM6.out.2.on K7⟩)
          have c1 := K7.cell d1 (fun x => x)
          rw [← hw7]
          clear hw7 K7 d0 d1 hd2
          go_wp2_with (at_builtin; refine wpList_mineI2 rfl (.tmp 103) (.tmp 105) rfl W _ _ rfl (HM7.out.2.alloc _) _ _ rfl (src_oneI w7 (.int .i64 X) rfl) (by have := HMM.out; simp; omega) ?_; intro v9' w8 hm8 hk8 ha8)
          have hT8 : Tk W w8 p r rv bs t2 (rw_ ++ [X]) (.slice lo N lc) v9' := by
            have := HI.out.add (X := X) (N := M) (by rw [← HGG.out]) (by have := HT2E.out; have := HT2N.out; have := HBL.out; omega) (w1 := w7.alloc (.cells #[.int .i64 X] 3)) (by have := H7.out.on ((Kept.refl (fun _ => False) w7).alloc (.cells #[.int .i64 X] 3)); rw [← HMM.out]; exact this) (HM7.out.1.alloc _) (by rw [← HMM.out]; exact HM7.out.2.alloc _) hm8 (by rw [← HMM.out]; exact hk8) (by rw [← HMM.out]; exact ha8)
            rw [← HT2E.out] at this; exact this
          have HT8 := Lib.hid hT8
          clear hT8 hm8 hk8 ha8
          go_wp2
          go_roundg (n - (rw_ ++ [X]).length)
          case measure => have := HD.out; have := HMM.out; simp; omega
          case rel => exact ⟨t2, rw_ ++ [X], by have := HD.out; have := HMM.out; simp; omega, rfl, by rw [List.length_append, ← HMM.out]; go_num, rfl, HT8.out⟩
        · rw [if_neg hE0] at hV2
          have hM0 := hnE hE0
          subst hV2 hM0
          have HGN := Lib.hid fun w' (h : RRow W w' p r rv bs t rw_.length (lastA rw_ rw_.length) (stepA rw_ rw_.length)) => rowGetNK W w' p r rv bs t _ _ _ E h HTT.out hbl8 hE0 (by rw [← HGG.out])
          rw [← hm] at HNX ⊢
          have ee : ((E : Int) != (E : Int)) = false := by simp
          have et : ((t : Int) != (t : Int)) = false := by simp
          have em : ((m : Int) != (m : Int)) = false := by simp
          have ez : ((E : Int) != 0) = true := by simp; omega
          have uz : IntKind.u64.wrap 0 = 0 := by decide
          have at_ : IntKind.i64.wrap (t : Int) = (t : Int) := IntWalk.i64_in _ ⟨by omega, by have := HNN.out; omega⟩
          have hmn : m ≤ 100 := by omega
          clear hT hct hao2 hbx hG hd hnle hnE htN hm hE0 hV
          go_wp2_with fail
          refine HNX.out.mono ?_
          rintro e w4 ⟨rfl, k4⟩
          have k5 := k4.alloc (.cells #[.int .u64 0, .int .i64 0, .int .i64 (E : Int)] 44)
          obtain ⟨w5, hw5⟩ : ∃ w5, w5 = w4.alloc (.cells #[.int .u64 0, .int .i64 0, .int .i64 (E : Int)] 44) := ⟨_, rfl⟩
          have g5 : Got3 w5 w4.heap.size 0 0 E := by rw [hw5]; exact heap_alloc_new w4 _
          have hqp : w4.heap.size ≠ p := by have := HI.out.rr.rd.lt; have := k4.size; omega
          have hqr : w4.heap.size ≠ r := by have := HI.out.rr.row.lt; have := k4.size; omega
          rw [← hw5] at k5
          have H5 := Lib.hid (HI.out.on k5)
          have G5 := Lib.hid g5
          have HW5 := Lib.hid hw5
          clear hw5 k4 k5 g5
          go_wp2_with fail
          rw [← HW5.out]
          refine (HGN.out w5 H5.out.rr).mono ?_
          rintro e w6 ⟨rfl, h6, k6⟩
          have H6 := Lib.hid (H5.out.same h6 k6)
          have g6 : Got3 w6 w4.heap.size 0 0 E := G5.out.same_ k6 (fun e => e.elim hqp hqr)
          have G6 := Lib.hid g6
          obtain ⟨⟨d0, d1, d2⟩, _⟩ := g6.c
          have HAT := Lib.hid fun nq => show Calls Tryd.prog 25 #[.pointer (some ⟨p, 0, none⟩)] (w6.drewN nq) (fun e w' => e = .returned (.int .i64 (t : Int)) ∧ w' = w6.drewN nq) from (bat_any W.heap.size p rv bs t (w6.drewN nq) (H6.out.rr.rd.drewN nq)).mono fun _ _ h => ⟨h.1, h.2.symm⟩
          clear k6 h6 g6
          go_wp2
          go_quiet ((go_at_call 25; exact Calls.quiet_of_same (HAT.out _)))
          obtain ⟨w7, hw7⟩ : ∃ w7, w7 = w6.drewN nq := ⟨_, rfl⟩
          have K7 : Kept (fun _ => False) w6 w7 := by rw [hw7]; exact (Kept.refl _ _).drewN _
          have H7 := Lib.hid (H6.out.on K7)
          have G7 := Lib.hid (G6.out.same_ K7 (fun x => x))
          rw [← hw7]
          clear hw7 K7 d0 d1 d2
          go_wp2_with fail
          refine (HGN.out w7 H7.out.rr).mono ?_
          rintro e w8 ⟨rfl, h8, k8⟩
          have H8 := Lib.hid (H7.out.same h8 k8)
          have g8 : Got3 w8 w4.heap.size 0 0 E := G7.out.same_ k8 (fun e => e.elim hqp hqr)
          obtain ⟨⟨d0, d1, d2⟩, _⟩ := g8.c
          have HLN := Lib.hid (rowLen_any r _ _ _ w8 H8.out.rr.row)
          rw [← HMM.out] at HLN
          clear k8 h8 g8
          go_wp2_with (go_at_call 29; refine HLN.out.mono ?_; rintro e w' ⟨rfl, rfl⟩)
          go_meet
          case rel => exact ⟨t, rw_, by have := HMM.out; omega, rfl, by have := H8.out; rw [HMM.out]; exact this⟩
      · rw [← hm]
        have hdi : ¬ (m : Int) < (n : Int) := by omega
        have hdib : decide (m < n) = false := decide_eq_false hd
        clear hm
        go_wp2
        go_meet
        case rel => exact ⟨t, rw_, by have := HMM.out; omega, rfl, by have := HI.out; rw [HMM.out]; exact this⟩
  case rest =>
    obtain ⟨t, rw_, hl100, rfl, htk⟩ := hcut
    have HI := Lib.hid htk
    obtain ⟨a9, c9, e9⟩ := HI.out.mr.slice
    rw [vals_length] at e9
    subst e9
    clear htk HTK
    obtain ⟨m, hm⟩ : ∃ m, m = rw_.length := ⟨_, rfl⟩
    have HMM := Lib.hid hm
    rw [← hm]
    have HTS := Lib.hid (HTT.out.kept HI.out.ml.kept)
    have hm100 : m ≤ 100 := by omega
    have hmm := HI.out.mr.at_
    rw [← hm] at hmm
    have HRS := Lib.hid hmm
    clear hm hl100 hmm
    go_wp2_with fail
    refine (HBN.out wc).mono ?_
    rintro e w5 ⟨rfl, hw5⟩
    have H0 := bnew_at wc.heap.size wc (Nat.le_refl _)
    rw [← hw5] at H0
    have k5 : Kept (fun _ => False) wc w5 := by rw [hw5]; exact (Kept.refl _ _).alloc _
    obtain ⟨p2, hp2⟩ : ∃ p2, p2 = wc.heap.size := ⟨_, rfl⟩
    have H0' : BwAt w5 wc.heap.size p2 (.slice none 0 0) [] := by rw [hp2]; exact H0
    rw [← hp2]
    clear hw5 hp2 H0
    go_wp2_with fail
    refine (HRN.out w5).mono ?_
    rintro e w6 ⟨rfl, hr6, k6⟩
    obtain ⟨r2, hr2⟩ : ∃ r2, r2 = w5.heap.size := ⟨_, rfl⟩
    have HWR := Lib.hid (show WRow wc w6 p2 r2 (.slice none 0 0) (rowB rw_ 0) 0 (lastA rw_ 0) (stepA rw_ 0) from ⟨H0'.keptF k6, by rw [hr2]; exact hr6, by rw [hr2]; exact k5.size, k5.trans k6⟩)
    rw [← hr2]
    clear hr6 k5 k6 H0' hr2
    go_wp2
    go_loopg [17] m (fun g s17 wr => ∃ i : Nat, i ≤ m ∧ g = m - i ∧ s17 = .int .i64 i ∧ ∃ v, WRow wc wr p2 r2 v (rowB rw_ i) i (lastA rw_ i) (stepA rw_ i))
    case atStart => exact ⟨0, Nat.zero_le _, rfl, rfl, _, HWR.out⟩
    case round =>
      obtain ⟨i, hil, rfl, rfl, v, hwr⟩ := hrel
      have HJ := Lib.hid hwr
      clear hwr HWR
      by_cases hd : i < m
      · have hdi : (i : Int) < (m : Int) := by omega
        have i0 : (0 : Int) ≤ (i : Int) := by omega
        have HD := Lib.hid hd
        obtain ⟨g, off, rfl, c0⟩ := (HRS.out.kept HJ.out.kept (fun _ _ x => x)).elem (vals_get (l := rw_) (j := i) (by have := HMM.out; omega))
        have hx := getD_I64 HI.out.i64 i
        have hlb := rowB_length rw_ i
        have HNX : Hid (rowB rw_ (i + 1) = rowB rw_ i ++ nextB i (lastA rw_ i) (stepA rw_ i) (rw_.getD i 0)) := Lib.hid rfl
        have HLA := Lib.hid (lastA_succ rw_ i)
        have HSA := Lib.hid (stepA_succ rw_ i)
        obtain ⟨x, hxe⟩ : ∃ x, x = rw_.getD i 0 := ⟨_, rfl⟩
        rw [← hxe] at hx HNX c0 HLA HSA
        have HP := Lib.hid (rowPutW wc wr p2 r2 v (rowB rw_ i) i _ _ x HJ.out HTS.out (by omega) (by omega) hx (by omega))
        clear hd hxe hlb hx
        go_wp2_with (go_at_call 28; refine HP.out.mono ?_; rintro e w7 ⟨rfl, v7, h7⟩; have H7 := Lib.hid h7; clear h7)
        go_roundg (m - (i + 1))
        case measure => have := HD.out; omega
        case rel => exact ⟨i + 1, HD.out, rfl, by go_num, v7, by rw [HNX.out, HLA.out, HSA.out]; exact H7.out⟩
      · obtain rfl : i = m := by omega
        have heq := HI.out.eq
        rw [← HMM.out] at heq
        have htl := HI.out.tl
        have hlen : (bs.take t).length = t := by rw [List.length_take]; omega
        rw [heq] at HJ
        have hbl8 : bs.length ≤ 480 := by have := HBL.out; have := HNN.out; omega
        have HL1 := Lib.hid fun w' (h : Kept (fun _ => False) wr w') => bwlen_any _ _ _ _ w' (HJ.out.on h).bw
        rw [hlen] at HL1
        have HB1 := Lib.hid fun w' (h : Kept (fun _ => False) wr w') => bytesStr _ w' _ _ _ (HJ.out.on h).bw (by rw [hlen]; omega)
        have hsl := (HI.out.ml.at_).takeH (k := t) (by have := HBL.out; omega)
        have hit : (ints bs).take t = ints (bs.take t) := by unfold ints; rw [List.map_take]
        rw [hit] at hsl
        have HR1 := Lib.hid fun w' (h : Kept (fun _ => False) wr w') => refBytesStrB _ (bs.take t) w' (hsl.kept (HJ.out.kept.trans h) (fun _ _ x => x)) (by rw [hlen]; omega)
        obtain ⟨S1, hS1⟩ : ∃ S, S = strN (packB (bs.take t)) := ⟨_, rfl⟩
        rw [← hS1] at HB1 HR1
        have htc : t ≤ lc := by have := HBL.out; omega
        have s1 := fun w => run_cutH (P := Tryd.prog) Tryd.underlying26 hiI hzI1 lo N lc t htc w
        have s2 := fun w => run_cutHAt (P := Tryd.prog) Tryd.underlying26 hiI hzI1 lo N lc t htc w
        have kd : Kept (fun _ => False) wr wr.drew := (Kept.refl _ wr).drew
        have K9 := Lib.hid (HI.out.ml.kept.trans HJ.out.kept)
        have ett : ((t : Int) == (t : Int)) = true := by simp
        clear hd heq htl hlen hsl hit hS1 HJ htc
        go_wp2
        go_region_with (first
          | (go_at_call 16; refine (HL1.out _ (by assumption)).mono ?_; rintro e w' ⟨rfl, rfl⟩)
          | (go_at_call 18; refine (HR1.out _ (by assumption)).mono ?_; rintro e w7 ⟨vc, rfl, hcw, k7⟩; have kc7 := Kept.trans (show Kept (fun _ => False) wr _ from by assumption) k7; have k77 := Kept.refl (fun _ => False) w7)
          | (go_at_call 17; refine (HB1.out _ (by assumption)).mono ?_; rintro e w6 ⟨vb, rfl, hcv, k6⟩; have kc := Kept.trans (show Kept (fun _ => False) wr _ from by assumption) k6; have k66 := Kept.refl (fun _ => False) w6)
          | fail)
        all_goals
          go_wp2
          go_ret
          exact ⟨rfl, K9.out.trans (by assumption)⟩

set_option maxHeartbeats 1000000 in
theorem varyTakes_walk (ao : Option Addr) (la ca : Nat) (z0 : List Int) (n : Int) (W : World) (h0 : IsRow .u8 W ao la ca z0) (_hn : -9223372036854775808 ≤ n ∧ n ≤ 9223372036854775807) (HT : Tabs W) :
    Calls Tryd.prog 6 #[.slice ao la ca, .int .i64 n] W fun e w' => e = .returned (.bool true) ∧ Kept (fun _ => False) W w' := by
  obtain ⟨l, rfl, hx, hv⟩ := h0.slAtN 256 (fun x h => by have := bd_u8 h; omega)
  by_cases hl : l.length ≤ 60 ∧ 0 ≤ n ∧ n ≤ 100
  · obtain ⟨h1, h2, h3⟩ := hl
    obtain ⟨m, rfl⟩ : ∃ m : Nat, n = m := ⟨n.toNat, by omega⟩
    exact varyTakes_walk0 ao ca l m W hv h1 hx (by omega) HT
  · have HA := Lib.hid (awake6_any W HT)
    have hq : (60 : Int) < (l.length : Int) ∨ ((¬ (60 : Int) < (l.length : Int)) ∧ n < 0) ∨ ((¬ (60 : Int) < (l.length : Int)) ∧ (¬ n < 0) ∧ 100 < n) := by omega
    clear h0 hx hv HT hl
    rcases hq with q1 | ⟨q1, q2⟩ | ⟨q1, q2, q3⟩
    all_goals
      go_enter Tryd.func6, Tryd.ntmps6
      go_wp2_with fail
      refine HA.out.mono ?_
      rintro e w1 ⟨rfl, K1⟩
      go_wp2
      go_ret
      exact ⟨rfl, K1⟩
end Go.Proofs.YtaagjedkojlbpaaDoor
