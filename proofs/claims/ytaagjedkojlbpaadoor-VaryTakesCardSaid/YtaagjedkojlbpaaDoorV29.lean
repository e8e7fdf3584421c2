/- Layer 6: the walk of 'VaryRows'. -/
import Derived.Test.YtaagjedkojlbpaaDoorV28
namespace Go.Proofs.YtaagjedkojlbpaaDoor
open Go.RowKit
attribute [local go_sem ↓] Go.wp_at_zero Go.wp_at_succ

theorem openE_packed (bs : List Bool) : openE (packB bs) bs.length = 0 := by
  unfold openE
  have hl := packB_length bs
  rw [if_neg (by omega), if_neg (by omega), if_neg (by omega), Int.toNat_natCast]
  rw [open_rest _ _ (by omega) (by omega), packB_getD]
  by_cases h : 0 < bs.length % 8
  · have e : byteAt bs (bs.length / 8) % 2 ^ (8 - bs.length % 8) = 0 := by
      apply Nat.eq_of_testBit_eq
      intro i
      rw [Nat.testBit_mod_two_pow, byteAt_testBit, Nat.zero_testBit]
      by_cases hi : i < 8 - bs.length % 8
      · rw [List.getD_eq_getElem?_getD, List.getElem?_eq_none (by omega)]; simp
      · simp [hi]
    rw [e]; simp
  · have e : decide (0 < bs.length % 8) = false := decide_eq_false h
    rw [e]; simp
theorem bitsOf_packB (bs : List Bool) : (bitsOf (packB bs)).take bs.length = bs := by
  apply List.ext_getElem?
  intro j
  rw [List.getElem?_take]
  by_cases h : j < bs.length
  · rw [if_pos h]
    have h1 := bitsOf_getD (packB bs) (j / 8) (7 - j % 8) (by omega)
    have e : 8 * (j / 8) + (7 - (7 - j % 8)) = j := by omega
    rw [e, packB_getD, byteAt_testBit, List.getD_eq_getElem?_getD, List.getD_eq_getElem?_getD, e] at h1
    have hj : j < (bitsOf (packB bs)).length := by rw [bitsOf_length, packB_length]; omega
    rw [List.getElem?_eq_getElem hj, List.getElem?_eq_getElem h] at h1 ⊢
    simp at h1 ⊢
    rw [h1]; simp; omega
  · rw [if_neg h, List.getElem?_eq_none (by omega)]

/-- A row's bits, parted at a number. -/
theorem rowB_part (l : List Int) (i k : Nat) : ∃ rest, rowB l (i + k) = rowB l i ++ rest := by
  induction k with
  | zero => exact ⟨[], by simp⟩
  | succ k ih =>
    obtain ⟨r, hr⟩ := ih
    exact ⟨r ++ nextB (i + k : Nat) (lastA l (i + k)) (stepA l (i + k)) (l.getD (i + k) 0), by rw [← Nat.add_assoc]; simp only [rowB, hr, List.append_assoc]⟩
theorem rowB_next (l : List Int) (i n : Nat) (h : i < n) (hb : ∀ x ∈ l, I64 x) :
    nextGot i (lastA l i) (stepA l i) ((rowB l n).drop (rowB l i).length) = (l.getD i 0, (nextB i (lastA l i) (stepA l i) (l.getD i 0)).length, 0) := by
  obtain ⟨rest, hr⟩ := rowB_part l (i + 1) (n - (i + 1))
  rw [show i + 1 + (n - (i + 1)) = n by omega] at hr
  rw [hr]
  simp only [rowB]
  rw [List.append_assoc, List.drop_left]
  refine nextGot_put _ _ _ _ _ (getD_I64 hb i) (by omega) (fun e => ?_)
  have h0 : i = 0 := by omega
  rw [h0]; rfl
theorem rowB_le (l : List Int) (i n : Nat) (h : i ≤ n) : (rowB l i).length ≤ (rowB l n).length := by
  obtain ⟨rest, hr⟩ := rowB_part l i (n - i)
  rw [show i + (n - i) = n by omega] at hr
  rw [hr, List.length_append]; omega

theorem refBytesStrB (v : Value) (bs : List Bool) (w : World) (hv : SlAt w v (ints bs)) (hl : bs.length ≤ 1000000000) :
    Calls Tryd.prog 18 #[v] w fun e w' => ∃ vb, e = .returned vb ∧ (∀ w'', Kept (fun _ => False) w' w'' → (convert 33 9 vb).run Tryd.prog w'' = .ok (.string (strN (packB bs))) w'') ∧ Kept (fun _ => False) w w' := by
  refine (refBytes_any v bs w hv hl).mono ?_
  rintro e w6 ⟨vb, rfl, ho, hk⟩
  exact ⟨vb, rfl, fun w'' hk2 => run_strN ((SlAt.ofOwn ho).kept hk2 (fun _ _ x => x)) 33 5 9 Tryd.underlying33 Tryd.underlying5 Tryd.underlying9, hk⟩
/-- A reader and a row. -/
structure RRow (W w : World) (p r : Nat) (v : Value) (bs : List Bool) (t : Nat) (n last step : Int) : Prop where
  rd : BrAt w W.heap.size p v bs t
  row : RowBox w r n last step
  base : W.heap.size ≤ r
  kept : Kept (fun _ => False) W w
theorem BrAt.apartT {w : World} {B p r t : Nat} {v : Value} {bs : List Bool} {cs : Array Value} {T : TypeId} {fr : Nat × Nat} (h : BrAt w B p v bs t) (hr : w.heap[r]? = some (.cells cs T fr)) (h1 : T ≠ 82) (h2 : T ≠ 5) : r ≠ p ∧ v.ownBlock ≠ some r := by
  refine ⟨?_, ?_⟩
  · rintro rfl
    have := h.box
    rw [hr] at this
    injection this with this; injection this with _ e _
    exact h1 e
  · intro e
    obtain ⟨cur, hc⟩ := ownsRow_block h.owns e
    rw [hr] at hc
    injection hc with this; injection this with _ e _
    exact h2 e
section
variable {W w w' : World} {p r t N : Nat} {v : Value} {bs : List Bool} {n last step X : Int} {e : Ending}
theorem RRow.ne (h : RRow W w p r v bs t n last step) : r ≠ p ∧ v.ownBlock ≠ some r := h.rd.apartT h.row (by decide) (by decide)
theorem RRow.on (h : RRow W w p r v bs t n last step) (hk : Kept (fun _ => False) w w') : RRow W w' p r v bs t n last step := ⟨h.rd.keptF hk, h.row.kept hk (fun x => x), h.base, h.kept.trans hk⟩
theorem RRow.got (h : RRow W w p r v bs t n last step) (g : RowGot w W.heap.size p r v bs t n last step X N e w') : e = .returned (.tuple #[.int .i64 X, .int .i64 0]) ∧ RRow W w' p r v bs (t + N) (n + 1) X (stepOf n last step X) := by
  obtain ⟨he, hr, hb, hk⟩ := g
  refine ⟨he, hb, hr, h.base, h.kept.newer hk ?_⟩
  rintro i (rfl | rfl)
  · exact h.rd.base
  · exact h.base
theorem RRow.gotNo {E : Nat} (h : RRow W w p r v bs t n last step) (g : RowGotNo w W.heap.size p r v bs t n last step E e w') : e = .returned (.tuple #[.int .i64 0, .int .i64 (E : Int)]) ∧ RRow W w' p r v bs t n last step := by
  obtain ⟨he, hr, hb, hk⟩ := g
  refine ⟨he, hb, hr, h.base, h.kept.newer hk ?_⟩
  rintro i rfl
  exact h.rd.base
end
theorem rowGetY (W w : World) (p r : Nat) (v : Value) (bs : List Bool) (t : Nat) (n last step X : Int) (N : Nat) (h : RRow W w p r v bs t n last step) (HT : Tabs W) (hn : 0 ≤ n) (hn2 : n ≤ 1000000) (hl : bs.length ≤ 100000000) (hg : nextGot n last step (bs.drop t) = (X, N, 0)) :
    Calls Tryd.prog 31 #[.pointer (some ⟨r, 0, none⟩), .pointer (some ⟨p, 0, none⟩)] w fun e w' => e = .returned (.tuple #[.int .i64 X, .int .i64 0]) ∧ RRow W w' p r v bs (t + N) (n + 1) X (stepOf n last step X) := by
  have := rowGet_yes W.heap.size p r v bs t n last step w h.rd h.row h.ne.1 h.ne.2 h.kept.size HT.lt hl (HT.kept h.kept) hn hn2 (by rw [hg])
  rw [hg] at this
  exact this.mono fun _ _ g => h.got g
theorem rowGetN (W w : World) (p r : Nat) (v : Value) (bs : List Bool) (t : Nat) (n last step : Int) (E : Nat) (h : RRow W w p r v bs t n last step) (HT : Tabs W) (hl : bs.length ≤ 100000000) (hE : E ≠ 0) (hg : (nextGot n last step (bs.drop t)).2.2 = E) :
    Calls Tryd.prog 31 #[.pointer (some ⟨r, 0, none⟩), .pointer (some ⟨p, 0, none⟩)] w fun e w' => e = .returned (.tuple #[.int .i64 0, .int .i64 (E : Int)]) ∧ RRow W w' p r v bs t n last step := by
  have := rowGet_no W.heap.size p r v bs t n last step w h.rd h.row h.ne.1 h.kept.size HT.lt hl (HT.kept h.kept) (by rw [hg]; exact hE)
  rw [hg] at this
  exact this.mono fun _ _ g => h.gotNo g

set_option maxHeartbeats 4000000 in
set_option maxRecDepth 100000 in
theorem varyRows_walk0 (ao : Option Addr) (ca : Nat) (l : List Int) (y : Int) (W : World) (hv : SlAt W (.slice ao l.length ca) (vals l)) (hl : l.length ≤ 60) (hb : ∀ x ∈ l, I64 x) (hy : I64 y) (HT : Tabs W) :
    Calls Tryd.prog 5 #[.slice ao l.length ca, .int .i64 y] W fun e w' => e = .returned (.bool true) ∧ Kept (fun _ => False) W w' := by
  have HAW := Lib.hid (awake6_any W HT)
  have HTT := Lib.hid HT
  have hv0 := Lib.hid hv
  have HBB := Lib.hid hb
  have hlt := HT.lt
  have q60 : ¬ (60 : Int) < (l.length : Int) := by omega
  have q60b : decide (60 < l.length) = false := decide_eq_false (by omega)
  have HBN := Lib.hid bnew_any
  have HRN := Lib.hid newRow_any
  clear HT hv hb
  go_enter Tryd.func5, Tryd.ntmps5
  go_wp2_with fail
  refine HAW.out.mono ?_
  rintro e w0 ⟨rfl, k0⟩
  have K0 := Lib.hid k0
  clear k0
  go_wp2_with fail
  refine (HBN.out w0).mono ?_
  rintro e w1 ⟨rfl, hw1⟩
  have H0 := bnew_at W.heap.size w0 K0.out.size
  rw [← hw1] at H0
  have k1 : Kept (fun _ => False) w0 w1 := by rw [hw1]; exact (Kept.refl _ _).alloc _
  obtain ⟨p, hp⟩ : ∃ p, p = w0.heap.size := ⟨_, rfl⟩
  rw [← hp] at H0 ⊢
  clear hw1 hp
  go_wp2_with fail
  refine (HRN.out w1).mono ?_
  rintro e w2 ⟨rfl, hr, k2⟩
  have hs := k1.size
  obtain ⟨r, hr1⟩ : ∃ r, r = w1.heap.size := ⟨_, rfl⟩
  rw [← hr1] at hr ⊢
  have HWR := Lib.hid (show WRow W w2 p r (.slice none 0 0) (rowB l 0) 0 (lastA l 0) (stepA l 0) from ⟨H0.keptF k2, hr, by have := K0.out.size; omega, (K0.out.trans k1).trans k2⟩)
  clear hr k1 k2 H0 hr1 hs
  go_wp2
  go_loopg [7, 8] l.length (fun g s7 s8 wr => ∃ i : Nat, i ≤ l.length ∧ g = l.length - i ∧ s7 = .int .i64 i ∧ ∃ v, WRow W wr p r v (rowB l i) i (lastA l i) (stepA l i))
  case atStart => exact ⟨0, Nat.zero_le _, rfl, rfl, _, HWR.out⟩
  case round =>
    obtain ⟨i, hil, rfl, rfl, v, hwr⟩ := hrel
    have HI := Lib.hid hwr
    clear hwr HWR
    by_cases hd : i < l.length
    · have hdi : (i : Int) < (l.length : Int) := by omega
      have i0 : (0 : Int) ≤ (i : Int) := by omega
      have HD := Lib.hid hd
      obtain ⟨g, off, rfl, _⟩ := (hv0.out.kept HI.out.kept (fun _ _ x => x)).elem (vals_get hd)
      have HCELL := Lib.hid fun w' (h : Kept (fun _ => False) W w') => (hv0.out.kept h (fun _ _ x => x)).elem (vals_get hd)
      have hx := getD_I64 HBB.out i
      have hlb := rowB_length l i
      have HNX : Hid (rowB l (i + 1) = rowB l i ++ nextB i (lastA l i) (stepA l i) (l.getD i 0)) := Lib.hid rfl
      have HLA := Lib.hid (lastA_succ l i)
      have HSA := Lib.hid (stepA_succ l i)
      obtain ⟨x, hxe⟩ : ∃ x, x = l.getD i 0 := ⟨_, rfl⟩
      rw [← hxe] at hx HNX HCELL HLA HSA
      have HC2 := Lib.hid fun w' (h : Kept (fun _ => False) W w') => show w'.cell? ⟨g, off + i, none⟩ = some (.int .i64 x) from by
        obtain ⟨_, _, e', b⟩ := HCELL.out w' h
        injection e' with e'; injection e' with e1 e2; subst e1; subst e2
        exact b
      have HI60 := Lib.hid hil
      clear hd hxe hil
      go_wp2_with fail
      refine (rowClone_any r _ _ _ wr HI.out.row).mono ?_
      rintro e w3 ⟨q, hq, rfl, hrq, k3⟩
      have H3 := Lib.hid (HI.out.on k3)
      go_wp2_with fail
      refine (HBN.out w3).mono ?_
      rintro e w4 ⟨rfl, hw4⟩
      have k4 : Kept (fun _ => False) w3 w4 := by rw [hw4]; exact (Kept.refl _ _).alloc _
      have B4 := bnew_at W.heap.size w3 (Nat.le_trans HI.out.kept.size k3.size)
      rw [← hw4] at B4
      have H4 := Lib.hid (H3.out.on k4)
      have hr4 := hrq.kept k4 (fun x => x)
      have hq4 : q ≠ w3.heap.size := by have := hrq.lt; omega
      have hqr : q ≠ r := by have := HI.out.row.lt; omega
      have hqp : q ≠ p := by have := HI.out.bw.lt; omega
      have hqv : v.ownBlock ≠ some q := fun e => by have := (ownsRow_lt HI.out.bw.owns e).1; omega
      have h34 := k3.size
      have K4 := Lib.hid (k3.trans k4)
      have HPY := Lib.hid (rowPut_any W.heap.size w3.heap.size q _ [] _ _ _ y w4 B4 hlt H4.out.kept.size hr4 hq4 (by simp [Value.ownBlock]) (by omega) (by have := HI60.out; omega) hy.1 hy.2 (by simp) (HTT.out.kept H4.out.kept))
      have HQ := Lib.hid hq
      clear k3 k4 hw4 B4 hrq hr4 hq hq4
      go_wp2_with fail
      refine HPY.out.mono ?_
      rintro e w5 ⟨rfl, hr5, v5, _, _, k5⟩
      have k45 : Kept (fun _ => False) wr w5 := K4.out.newer k5 (by
        rintro j (rfl | h | rfl)
        · exact h34
        · cases h
        · exact HQ.out)
      have H5 := Lib.hid (HI.out.on k45)
      have c5 := HC2.out _ H5.out.kept
      have HR5 := Lib.hid hr5
      have HPX := Lib.hid (rowPut_any W.heap.size p r v (rowB l i) i _ _ x w5 H5.out.bw hlt H5.out.kept.size H5.out.row H5.out.ne.1 H5.out.ne.2 (by omega) (by have := HI60.out; omega) hx.1 hx.2 (by have := HI60.out; omega) (HTT.out.kept H5.out.kept))
      clear k45 k5 hr5
      go_wp2_with fail
      refine HPX.out.mono ?_
      intro e w6 h6
      have hrq6 := HR5.out.kept (by obtain ⟨_, _, _, _, _, k6⟩ := h6; exact k6) (fun e => by rcases e with e | e | e; exact hqp e; exact hqv e; exact hqr e)
      obtain ⟨rfl, v6, hw6⟩ := H5.out.rput h6
      have H6 := Lib.hid hw6
      have HLQ := Lib.hid (rowLen_any q _ _ _ w6 hrq6)
      have HLR := Lib.hid (rowLen_any r _ _ _ w6 hw6.row)
      have i1 : IntKind.i64.wrap ((i : Int) + 1) = (i : Int) + 1 := IntWalk.i64_in _ ⟨by omega, by omega⟩
      have ne1 : (((i : Int) + 1) != ((i : Int) + 1)) = false := by simp
      clear hw6 hrq6 h6 c5
      go_wp2_with (first
        | (go_at_call_of 29 q; refine HLQ.out.mono ?_; rintro e w' ⟨rfl, rfl⟩)
        | (go_at_call_of 29 r; refine HLR.out.mono ?_; rintro e w' ⟨rfl, rfl⟩))
      go_roundg (l.length - (i + 1))
      case measure => have := HD.out; omega
      case rel => exact ⟨i + 1, HD.out, rfl, by go_num, v6, by rw [HNX.out, HLA.out, HSA.out]; exact H6.out⟩
    · obtain rfl : i = l.length := by omega
      have hlb := rowB_length l l.length
      have HNXT := Lib.hid fun i h => rowB_next l i l.length h HBB.out
      have HLE := Lib.hid fun i h => rowB_le l i l.length h
      obtain ⟨bs, hbs⟩ : ∃ bs, bs = rowB l l.length := ⟨_, rfl⟩
      rw [← hbs] at hlb HI HNXT HLE
      have HB0 := Lib.hid hbs
      have hsl := hv0.out.kept HI.out.kept (fun _ _ x => x)
      have HRW := Lib.hid (refRow6_any _ l wr hsl (by omega) HBB.out)
      rw [← hbs] at HRW
      clear hd hbs hsl
      go_wp2_with fail
      refine HRW.out.mono ?_
      rintro e w3 ⟨vs, rfl, hm3⟩
      obtain ⟨a3, c3, rfl⟩ := hm3.slice
      have hlen3 := ints_length bs
      rw [ints_length] at hm3
      rw [ints_length]
      have H3 := Lib.hid (HI.out.on hm3.kept)
      have HM3 := Lib.hid hm3
      have HL1 := Lib.hid fun w' (h : Kept (fun _ => False) w3 w') => bwlen_any _ _ _ _ w' (H3.out.on h).bw
      have HB1 := Lib.hid fun w' (h : Kept (fun _ => False) w3 w') => bytesStr _ w' _ _ _ (H3.out.on h).bw (by omega)
      have HR1 := Lib.hid fun w' (h : Kept (fun _ => False) w3 w') => refBytesStrB _ bs w' (HM3.out.on h).at_ (by omega)
      have HB2 := Lib.hid fun w' (h : Kept (fun _ => False) w3 w') => bwbytes_any _ _ _ _ w' (H3.out.on h).bw (by omega)
      have hnb := packB_length bs
      have HOP := Lib.hid fun w' v (h : SlAt w' v (bys (packB bs))) => bopen_yes v (packB bs) bs.length w' h (by omega) (packB_lt bs) (openE_packed bs)
      rw [bitsOf_packB] at HOP
      obtain ⟨S1, hS1⟩ : ∃ S, S = strN (packB bs) := ⟨_, rfl⟩
      rw [← hS1] at HB1 HR1
      obtain ⟨n, hn⟩ : ∃ n, n = bs.length := ⟨_, rfl⟩
      have HN := Lib.hid hn
      rw [← hn] at HL1 HOP ⊢
      have HR1' : Hid (∀ w', Kept (fun _ => False) w3 w' → Calls Tryd.prog 18 #[.slice a3 n c3] w' fun e w'_1 => ∃ vb, e = .returned vb ∧ (∀ w'', Kept (fun _ => False) w'_1 w'' → (convert 33 9 vb).run Tryd.prog w'' = .ok (.string S1) w'') ∧ Kept (fun _ => False) w' w'_1) := by rw [hn]; exact HR1
      have e1 : ((n : Int) != (n : Int)) = false := by simp
      have HLB := Lib.hid hlb
      have Krefl := Kept.refl (fun _ => False) w3
      clear hm3 hlen3 hnb hS1 hn HR1 hlb
      go_upto_region 16 with fail
      go_cut [68] (fun s68 wc => s68 = .bool false ∧ Kept (fun _ => False) w3 wc)
      case first =>
        have kd : Kept (fun _ => False) w3 w3.drew := (Kept.refl _ w3).drew
        go_region_with (first
          | (go_at_call 16; refine (HL1.out _ (by assumption)).mono ?_; rintro e w' ⟨rfl, rfl⟩)
          | (go_at_call 18; refine (HR1'.out _ (by assumption)).mono ?_; rintro e w7 ⟨vc, rfl, hcw, k7⟩; have kc7 := Kept.trans (show Kept (fun _ => False) w3 _ from by assumption) k7; have k77 := Kept.refl (fun _ => False) w7)
          | (go_at_call 17; refine (HB1.out _ (by assumption)).mono ?_; rintro e w6 ⟨vb, rfl, hcv, k6⟩; have kc := Kept.trans (show Kept (fun _ => False) w3 _ from by assumption) k6; have k66 := Kept.refl (fun _ => False) w6)
          | fail)
        all_goals
          go_wp2
          go_meet
          case rel => exact ⟨rfl, by assumption⟩
      case rest =>
        obtain ⟨rfl, kc⟩ := hcut
        have HC0 := Lib.hid kc
        clear kc
        go_wp2_with (first
          | (go_at_call 16; refine (HL1.out _ (HC0.out.trans k8)).mono ?_; rintro e w' ⟨rfl, rfl⟩)
          | (go_at_call 17; refine (HB2.out _ HC0.out).mono ?_; rintro e w8 ⟨vb8, rfl, ho8, k8⟩; have HO8 := Lib.hid (SlAt.ofOwn ho8); clear ho8)
          | (go_at_call 19; refine (HOP.out _ _ HO8.out).mono ?_; rintro e w9 ⟨pr, rv, rfl, hr9, k9⟩; have HR9 := Lib.hid hr9; have K9 := Lib.hid (Kept.trans (HC0.out.trans k8) k9); clear hr9 k9)
          | (go_at_call 26; refine (HRN.out _).mono ?_; rintro e w10 ⟨rfl, hx10, k10⟩; have HX10 := Lib.hid hx10; have K10 := Lib.hid k10; clear hx10 k10))
        obtain ⟨r2, hr2⟩ : ∃ r2, r2 = w9.heap.size := ⟨_, rfl⟩
        have hW9 : Kept (fun _ => False) W w9 := H3.out.kept.trans K9.out
        have HRW0 : RRow W w10 pr r2 rv bs (rowB l 0).length 0 (lastA l 0) (stepA l 0) := by
          refine ⟨(HR9.out.keptF K10.out).down ?_, by rw [hr2]; exact HX10.out, by rw [hr2]; exact hW9.size, hW9.trans K10.out⟩
          exact ((H3.out.kept.trans HC0.out).trans k8).size
        have HRW0 := Lib.hid HRW0
        rw [← hr2]
        clear hr2 hW9 k8 HX10 K10 HR9 K9
        go_loopg [12, 13, 14] l.length (fun g s12 s13 s14 wr => ∃ i : Nat, i ≤ l.length ∧ g = l.length - i ∧ s12 = .int .i64 i ∧ RRow W wr pr r2 rv bs (rowB l i).length i (lastA l i) (stepA l i))
        case atStart => exact ⟨0, Nat.zero_le _, rfl, rfl, HRW0.out⟩
        case round =>
          obtain ⟨i, hil, rfl, rfl, hrr⟩ := hrel
          have HI := Lib.hid hrr
          clear hrr HRW0
          by_cases hd : i < l.length
          · have hdi : (i : Int) < (l.length : Int) := by omega
            have i0 : (0 : Int) ≤ (i : Int) := by omega
            have HD := Lib.hid hd
            obtain ⟨g, off, rfl, _⟩ := (hv0.out.kept HI.out.kept (fun _ _ x => x)).elem (vals_get hd)
            have HCELL := Lib.hid fun w' (h : Kept (fun _ => False) W w') => (hv0.out.kept h (fun _ _ x => x)).elem (vals_get hd)
            have HNX : Hid (rowB l (i + 1) = rowB l i ++ nextB i (lastA l i) (stepA l i) (l.getD i 0)) := Lib.hid rfl
            have HLA := Lib.hid (lastA_succ l i)
            have HSA := Lib.hid (stepA_succ l i)
            have hnx := HNXT.out i hd
            obtain ⟨x, hxe⟩ : ∃ x, x = l.getD i 0 := ⟨_, rfl⟩
            rw [← hxe] at HNX HCELL HLA HSA hnx
            have HC2 := Lib.hid fun w' (h : Kept (fun _ => False) W w') => show w'.cell? ⟨g, off + i, none⟩ = some (.int .i64 x) from by
              obtain ⟨_, _, e', b⟩ := HCELL.out w' h
              injection e' with e'; injection e' with e1 e2; subst e1; subst e2
              exact b
            have HG := Lib.hid (rowGetY W _ pr r2 rv bs _ i _ _ x _ HI.out HTT.out (by omega) (by omega) (by have := HLB.out; omega) hnx)
            have ex : (x != x) = false := by simp
            clear hd hxe hil hnx
            go_wp2_with (go_at_call 31; refine HG.out.mono ?_; rintro e w11 ⟨rfl, h11⟩; have H11 := Lib.hid h11; have c11 := HC2.out _ h11.kept; clear h11)
            go_roundg (l.length - (i + 1))
            case measure => have := HD.out; omega
            case rel => exact ⟨i + 1, HD.out, rfl, by go_num, by rw [HNX.out, HLA.out, HSA.out, List.length_append]; exact H11.out⟩
          · obtain rfl : i = l.length := by omega
            have hend := HI.out.rd
            rw [← HB0.out] at hend
            have HL := Lib.hid (bleft_any _ _ _ _ _ _ hend (by have := HLB.out; omega))
            rw [Nat.sub_self] at HL
            clear hd hend
            go_wp2_with (go_at_call 32; refine HL.out.mono ?_; rintro e w' ⟨rfl, nq, rfl⟩)
            go_ret
            exact ⟨rfl, HI.out.kept.drewN _⟩

set_option maxHeartbeats 1000000 in
theorem varyRows_walk (ao : Option Addr) (la ca : Nat) (z0 : List Int) (y : Int) (W : World) (h0 : IsRow .i64 W ao la ca z0) (hy : -9223372036854775808 ≤ y ∧ y ≤ 9223372036854775807) (HT : Tabs W) :
    Calls Tryd.prog 5 #[.slice ao la ca, .int .i64 y] W fun e w' => e = .returned (.bool true) ∧ Kept (fun _ => False) W w' := by
  obtain ⟨l, rfl, hx, hv⟩ := h0.slAtI
  by_cases hl : l.length ≤ 60
  · exact varyRows_walk0 ao ca l y W hv hl (fun x h => bd_i64 (hx x h)) hy HT
  · have HA := Lib.hid (awake6_any W HT)
    have q1 : (60 : Int) < (l.length : Int) := by omega
    clear h0 hx hv HT
    go_enter Tryd.func5, Tryd.ntmps5
    go_wp2_with fail
    refine HA.out.mono ?_
    rintro e w1 ⟨rfl, K1⟩
    go_wp2
    go_ret
    exact ⟨rfl, K1⟩
end Go.Proofs.YtaagjedkojlbpaaDoor
