/- Layer 1: the walk of 'BitsPut'. -/
import Derived.Test.YtanhdjdojeoodaaB19
import Derived.Deep.RegionWith
import Derived.Deep.CutBlock
namespace Go.Proofs.Ytanhdjdojeoodaa
open Go.RowKit
attribute [local go_sem ↓] Go.wp_at_zero Go.wp_at_succ

theorem putOK_of (x n : Nat) (hn : n ≤ 64) : putOK x (n : Int) = decide (x / 2 ^ n = 0) := by
  unfold putOK
  rw [decide_eq_decide, Int.toNat_natCast]
  have hp := Nat.two_pow_pos n
  constructor
  · rintro ⟨_, _, h⟩; exact Nat.div_eq_of_lt h
  · intro h
    refine ⟨by omega, by omega, ?_⟩
    rcases Nat.lt_or_ge x (2 ^ n) with h1 | h1
    · exact h1
    · have := (Nat.le_div_iff_mul_le hp).2 (by omega : 1 * 2 ^ n ≤ x); omega

/-- What Row answers of a number that has its bits, and of one that has not. -/
theorem rowOf_yes {w w' : World} {x n : Nat} {e : Ending} (h : RowOf w x (n : Int) e w') (hok : putOK x (n : Int) = true) (hn : n ≤ 64) :
    ∃ v, e = .returned (.tuple #[v, .bool true]) ∧ w'.ownsRow w.heap.size 3 1 v n (ints (bitsN x n)) ∧ Kept (fun _ => False) w w' := by
  unfold RowOf at h
  rw [if_pos ⟨by omega, by omega⟩, Int.toNat_natCast] at h
  rw [putOK_of x n hn] at hok
  rw [hok] at h; exact h
theorem rowOf_no {w w' : World} {x : Nat} {z : Int} {e : Ending} (h : RowOf w x z e w') (hok : putOK x z = false) :
    ∃ v, e = .returned (.tuple #[v, .bool false]) ∧ Kept (fun _ => False) w w' := by
  unfold RowOf at h
  split at h
  · rename_i h1
    obtain ⟨n, rfl⟩ : ∃ n : Nat, z = n := ⟨z.toNat, by omega⟩
    rw [putOK_of x n (by omega)] at hok
    rw [Int.toNat_natCast, hok] at h
    obtain ⟨v, h2, _, h3⟩ := h
    exact ⟨v, h2, h3⟩
  · obtain ⟨h2, rfl⟩ := h
    exact ⟨_, h2, Kept.refl _ _⟩

set_option maxHeartbeats 4000000 in
set_option maxRecDepth 100000 in
theorem bitsPut_walk0 (ao : Option Addr) (ca : Nat) (rs : List PutRec) (W : World) (hr : RecsAt W ao rs) (hfew : fewR rs = true) :
    Calls Try.prog 3 #[.slice ao rs.length ca] W fun e w' => e = .returned (.bool true) ∧ Kept (fun _ => False) W w' := by
  obtain ⟨iI, hiI, hzI0, hzI1, hzI2⟩ := info_parts Try.infoInt
  have HR := Lib.hid hr
  have HA := Lib.hid (awake1_any W)
  have hl : rs.length ≤ 100 ∧ ∀ r ∈ rs, r.lb.length ≤ 40 := by
    unfold fewR at hfew
    simpa using hfew
  have HFEW := Lib.hid hfew
  have HL40 := Lib.hid hl.2
  have hl1 := hl.1
  clear hr hl hfew
  go_enter Try.func3, Try.ntmps3
  go_wp2_with fail
  refine HA.out.mono ?_
  rintro e w1 ⟨rfl, K1⟩
  have B1 := K1.size
  go_wp2_with fail
  refine (some_any ao ca rs w1 (HR.out.kept K1) (by omega)).mono ?_
  rw [HFEW.out]
  rintro e w' ⟨rfl, rfl⟩
  go_wp2_with fail
  refine (bnew_any w1).mono ?_
  rintro e w2 ⟨rfl, hw2⟩
  have H0 := bnew_at W.heap.size w1 B1
  rw [← hw2] at H0
  have I0 : PutInv W w2 w1.heap.size (.slice none 0 0) [] (.slice none 0 0) := ⟨H0, World.ownsRow_nil _ _ _ _, by rw [hw2]; exact K1.alloc _⟩
  obtain ⟨p, hp⟩ : ∃ p, p = w1.heap.size := ⟨_, rfl⟩
  rw [← hp] at I0 ⊢
  clear H0 hw2 hp B1 K1
  go_wp2
  go_loopg [4, 5] rs.length (fun g s4 s5 wr => ∃ i : Nat, i ≤ rs.length ∧ g = rs.length - i ∧ s5 = .int .i64 i ∧ ∃ v bs, bs.length ≤ 400 * i ∧ PutInv W wr p v bs s4)
  case atStart => exact ⟨0, Nat.zero_le _, rfl, rfl, _, _, by decide, I0⟩
  case round =>
    obtain ⟨i, hil, rfl, rfl, v, bs, hbl, I⟩ := hrel
    clear I0
    by_cases hd : i < rs.length
    · obtain ⟨g, o, rfl, hrec⟩ := HR.out (by omega)
      have hi0 := hrec i rs[i] (List.getElem?_eq_getElem hd)
      have hi' := hi0.kept I.kept
      have hl40 := HL40.out rs[i] (List.getElem_mem hd)
      obtain ⟨r, hrr⟩ : ∃ r, r = rs[i] := ⟨_, rfl⟩
      rw [← hrr] at hi' hi0 hl40
      obtain ⟨k, x, z, bo, bc, lb⟩ := r
      obtain ⟨ck, cx, cz, cb, hx, hz, hrow, hb, hcap⟩ := hi'
      have hrow0 := hi0.row
      simp only at ck cx cz cb hx hz hrow hb hcap hl40 hrow0
      have hdi : (i : Int) < (rs.length : Int) := by omega
      have hdi0 : (0 : Int) ≤ (i : Int) := by omega
      have HD := Lib.hid hd
      have HI := Lib.hid I
      have HRW := Lib.hid hrow
      have HRW0 := Lib.hid hrow0
      have HB := Lib.hid hb
      have HX := Lib.hid hx
      have HZ := Lib.hid hz
      clear hrec hrr hi0 hd I hrow hb hx hz hrow0
      go_upto_block 2 with fail
      obtain ⟨pb, hpb⟩ : ∃ pb, pb = wr.heap.size := ⟨_, rfl⟩
      rw [← hpb]
      have HPB := Lib.hid hpb
      clear hpb
      go_cut [4] (fun s4 wc => ∃ v' bs', bs'.length ≤ 400 * (i + 1) ∧ PutInv W wc p v' bs' s4)
      case first =>
        -- the local copy of what is put down
        obtain ⟨wa, hwa⟩ : ∃ wa, wa = wr.alloc (.cells #[.int .i64 k, .int .u64 (x : Int), .int .i64 z, .slice bo lb.length bc] 31) := ⟨_, rfl⟩
        have hpb := HPB.out
        have hbox : wa.heap[pb]? = some (.cells #[.int .i64 k, .int .u64 (x : Int), .int .i64 z, .slice bo lb.length bc] 31 (0, 0)) := by rw [hwa, hpb]; exact heap_alloc_new wr _
        have hka : Kept (fun _ => False) wr wa := by rw [hwa]; exact (Kept.refl _ wr).alloc _
        have Ia := HI.out.keptF hka
        have hpp : pb ≠ p := by have := HI.out.wr.lt; omega
        have hvp : v.ownBlock ≠ some pb := fun e => by have := (ownsRow_lt HI.out.wr.owns e).1; omega
        obtain ⟨aa, ca2, rfl⟩ := ownsRow_slice Ia.own
        rw [← hwa]
        have hrwa := HRW.out.kept hka (fun _ _ x => x)
        have hblen : bs.length ≤ 100000000 := by omega
        have boxc : ∀ w' : World, w'.heap[pb]? = some (.cells #[.int .i64 k, .int .u64 (x : Int), .int .i64 z, .slice bo lb.length bc] 31 (0, 0)) →
            w'.cell? ⟨pb, 1, none⟩ = some (.int .u64 (x : Int)) ∧ w'.cell? ⟨pb, 2, none⟩ = some (.int .i64 z) ∧ w'.cell? ⟨pb, 3, none⟩ = some (.slice bo lb.length bc) := fun w' h =>
          ⟨by rw [cell_of_row w' pb 1 _ _ _ h]; rfl, by rw [cell_of_row w' pb 2 _ _ _ h]; rfl, by rw [cell_of_row w' pb 3 _ _ _ h]; rfl⟩
        have BOX := Lib.hid boxc
        have HBX := Lib.hid hbox
        have IA := Lib.hid Ia
        have HRA := Lib.hid hrwa
        obtain ⟨c1, c2, c3⟩ := boxc wa hbox
        obtain ⟨z0, z1⟩ := HZ.out
        have hbl0 := hbl
        clear hwa hpb hbox hka Ia hrwa boxc ck cx cz cb
        by_cases hk0 : k = 0
        · subst hk0
          go_wp2_with fail
          refine (refRow_any x z HX.out wa).mono ?_
          rintro e w3 hrow
          by_cases hok : putOK x z = true
          · have hok2 := hok
            unfold putOK at hok2
            simp only [decide_eq_true_eq] at hok2
            obtain ⟨n, rfl⟩ : ∃ n : Nat, z = n := ⟨z.toNat, by omega⟩
            obtain ⟨vr, rfl, hor, K3⟩ := rowOf_yes hrow hok (by omega)
            have hpb2 : putB x (n : Int) = bitsN x n := by unfold putB; rw [if_pos hok, Int.toNat_natCast]
            have I3 := IA.out.keptF K3
            have box3 := K3.same HBX.out (fun x => x)
            obtain ⟨d1, d2, d3⟩ := BOX.out w3 box3
            have hput := bput_any W.heap.size p v bs x n w3 I3.wr I3.kept.size HX.out (by omega)
            rw [hok, hpb2] at hput
            have HPUT := Lib.hid hput
            have hn64 : n ≤ 64 := by omega
            have HI3 := Lib.hid I3
            have HOR := Lib.hid hor
            have HK3 := Lib.hid K3
            clear hrow hok hok2 hpb2 I3 box3 hput hor K3 c1 c2 c3
            go_wp2_with fail
            refine HPUT.out.mono ?_
            rintro e w4 ⟨rfl, ht⟩
            have hor4 : w4.ownsRow wa.heap.size 3 1 vr n (ints (bitsN x n)) := by
              obtain ⟨_, _, _, Kx⟩ := ht
              refine Kx.owns HOR.out (fun k e hS => ?_)
              rcases hS with rfl | hS
              · have := (ownsRow_lt HOR.out e).2; have := IA.out.wr.lt; omega
              · exact own_ne HOR.out HI3.out.wr.owns (by decide) e hS
            obtain ⟨v4, H4, o4, K4, _⟩ := HI3.out.wrote ht
            have hsrc := (SlAt.ofOwn hor4).src (P := Try.prog) Try.underlying27 (ints_one _)
            rw [ints_length, bitsN_length] at hsrc
            have HH4 := Lib.hid H4
            have HK4 := Lib.hid K4
            clear ht H4 hor4 d1 d2 d3
            go_wp2_with (at_builtin; refine wpList_append_src _ rfl (.tmp 48) (.tmp 49) 27 27 rfl W.heap.size 3 iI (.int .i64 0) 1 8 Try.underlying27 hiI hzI0 hzI1 hzI2 rfl (.slice aa bs.length ca2) bs.length (ints bs) rfl o4 vr n (ints (bitsN x n)) rfl hsrc ?c1 ?c2 ?c3 ?_)
            case c1 => unfold maxLen; omega
            case c2 => omega
            case c3 => have := K4.size; omega
            intro v2 w5 hown5 hg _ hat
            have fin := Lib.hid (PutInv.listed HH4.out o4 HK4.out (Kept.refl _ _) hown5 (by rw [bitsN_length]) hg)
            clear hown5 hg hat o4 hsrc K4
            go_wp2
            go_meet
            case rel => exact ⟨_, _, by rw [List.length_append, bitsN_length]; omega, fin.out⟩
          · have hok2 : putOK x z = false := by simpa using hok
            obtain ⟨vr, rfl, K3⟩ := rowOf_no hrow hok2
            have hpb2 : putB x z = [] := by unfold putB; rw [if_neg hok]
            have I3 := IA.out.keptF K3
            have box3 := K3.same HBX.out (fun x => x)
            obtain ⟨d1, d2, d3⟩ := BOX.out w3 box3
            have hput := bput_any W.heap.size p v bs x z w3 I3.wr I3.kept.size HX.out (by omega)
            rw [hok2, hpb2, List.append_nil] at hput
            have HPUT := Lib.hid hput
            have HI3 := Lib.hid I3
            clear hrow hok hok2 hpb2 I3 box3 hput K3 c1 c2 c3
            go_wp2_with fail
            refine HPUT.out.mono ?_
            rintro e w4 ⟨rfl, ht⟩
            obtain ⟨v4, H4, o4, K4, _⟩ := HI3.out.wrote ht
            have fin : PutInv W w4 p v4 bs (.slice aa bs.length ca2) := ⟨H4, o4, K4⟩
            have FIN := Lib.hid fin
            clear ht H4 o4 K4 fin d1 d2 d3
            go_wp2
            go_meet
            case rel => exact ⟨_, _, by omega, FIN.out⟩
        · by_cases hk1 : k = 1
          · subst hk1
            have q0 : ((1 : Int) == 0) = false := rfl
            by_cases hok : 0 ≤ z ∧ z ≤ 8 * (lb.length : Int)
            · obtain ⟨g1, g2⟩ := hok
              obtain ⟨n, rfl⟩ : ∃ n : Nat, z = n := ⟨z.toNat, by omega⟩
              have hput := bputbits_yes W.heap.size p v bs bo bc lb n wa IA.out.wr IA.out.kept.size HRA.out hcap (by omega) HB.out (by omega) (by omega) (fun h0 a ha => by
                have h3 : a.block < W.heap.size := HRW0.out.lt h0 ha
                exact ⟨by have := IA.out.wr.base; omega, fun e => by have := (ownsRow_lt IA.out.wr.owns e).2; omega⟩)
              have HPUT := Lib.hid hput
              clear hput
              go_wp2_with fail
              refine HPUT.out.mono ?_
              rintro e w4 ⟨rfl, ht⟩
              obtain ⟨v4, H4, o4, K4, far⟩ := IA.out.wrote ht
              have box4 : w4.heap[pb]? = some (.cells #[.int .i64 1, .int .u64 (x : Int), .int .i64 (n : Int), .slice bo lb.length bc] 31 (0, 0)) := by
                rw [far pb (Array.getElem?_eq_some_iff.1 HBX.out).1 hpp hvp]; exact HBX.out
              obtain ⟨d1, d2, d3⟩ := BOX.out w4 box4
              have hrow4 : SlAt w4 (.slice bo lb.length bc) (bys lb) := HRW0.out.kept K4 (fun _ _ x => x)
              have hbits : Calls Try.prog 18 #[.slice bo lb.length bc] w4.drew fun e w' => ∃ aB cB, e = .returned (.slice aB (8 * lb.length) cB) ∧ (∀ w, (Instr.slice 27 (.slice aB (8 * lb.length) cB) none (some (.int .i64 (n : Int))) none).run Try.prog w = .ok (.slice aB n cB) w) ∧
                  (∀ w, (Instr.sliceAt 27 (.slice aB (8 * lb.length) cB) none (some (.int .i64 (n : Int))) none).run Try.prog w = .ok (.slice aB n cB) w) ∧ SlAt w' (.slice aB n cB) (ints ((bitsOf lb).take n)) ∧ Kept (fun _ => False) w4 w' := by
                refine (refBits_any _ lb w4.drew (hrow4.kept ((Kept.refl _ w4).drew) (fun _ _ x => x)) (by omega) HB.out).mono ?_
                rintro e w' ⟨vv, rfl, ho, hk⟩
                rw [ints_length, bitsOf_length] at ho
                obtain ⟨aB, cB, rfl⟩ := ownsRow_slice ho
                have hcB := own_cap ho
                have h5 := SlAt.ofOwn (own_takeH ho (k := n) (by omega))
                have h6 : (ints (bitsOf lb)).take n = ints ((bitsOf lb).take n) := by unfold ints; rw [List.map_take]
                rw [h6] at h5
                exact ⟨aB, cB, rfl, fun w => run_cutH Try.underlying27 hiI hzI1 aB _ cB n (by omega) w, fun w => run_cutHAt Try.underlying27 hiI hzI1 aB _ cB n (by omega) w, h5, ((Kept.refl _ w4).drew).trans hk⟩
              have HBITS := Lib.hid hbits
              have HO4 := Lib.hid o4
              have HH4 := Lib.hid H4
              have HK4 := Lib.hid K4
              have hadd : ((bitsOf lb).take n).length = n := by rw [List.length_take, bitsOf_length]; omega
              have HADD := Lib.hid hadd
              have fin : ∀ (wb wc w5 : World) (v2 : Value), Kept (fun _ => False) w4 wb → Kept (fun _ => False) wb wc → w5.ownsRow W.heap.size 3 1 v2 (bs.length + n) (ints bs ++ ints ((bitsOf lb).take n)) → wc.grownBy w5 (Value.slice aa bs.length ca2).ownBlock → PutInv W w5 p v4 (bs ++ (bitsOf lb).take n) v2 ∧ w5.cell? ⟨pb, 2, none⟩ = some (.int .i64 (n : Int)) ∧ w5.cell? ⟨pb, 3, none⟩ = some (.slice bo lb.length bc) := fun wb wc w5 v2 kb kc hown hg => by
                have kbc := kb.trans kc
                have hne : some pb ≠ (Value.slice aa bs.length ca2).ownBlock := fun e => own_ne_blk o4 box4 (by decide) e.symm
                exact ⟨PutInv.listed H4 o4 K4 kbc hown (by rw [hadd]) hg, hg.cell (kbc.cell d2 (fun x => x)) hne, hg.cell (kbc.cell d3 (fun x => x)) hne⟩
              have FIN := Lib.hid fin
              have hpo : (Value.slice aa bs.length ca2).ownBlock ≠ some pb := own_ne_blk o4 box4 (by decide)
              clear ht H4 o4 K4 far box4 hbits hadd fin hrow4 c1 c2 c3 d1
              go_wp2
              go_region_held3 (fun w' => w'.cell? ⟨pb, 2, none⟩ = some (.int .i64 (n : Int)) ∧ w'.cell? ⟨pb, 3, none⟩ = some (.slice bo lb.length bc)) (first | exact ⟨hb2, hb3⟩ | exact hfin.2 | go_keep)
                (first
                  | (go_at_call 18; refine HBITS.out.mono ?_; rintro e wb ⟨aB, cB, rfl, s1, s2, hsl, kb⟩; have hb2 := kb.cell d2 (fun x => x); have hb3 := kb.cell d3 (fun x => x); have HSL := Lib.hid hsl; have HKB := Lib.hid kb; clear hsl kb)
                  | (refine step_append_src _ (by rfl) (.tmp 74) (.tmp 80) 27 27 (by rfl) W.heap.size 3 iI (.int .i64 0) 1 8 Try.underlying27 hiI hzI0 hzI1 hzI2 rfl (.slice aa bs.length ca2) bs.length (ints bs) (by rfl) (by first | exact HKB.out.owns HO4.out (fun _ _ x => x) | exact (HKB.out.trans ((Kept.refl _ wb).drew)).owns HO4.out (fun _ _ x => x)) (.slice aB n cB) n (ints ((bitsOf lb).take n)) (by rfl) (by
                      have h7 := HADD.out
                      first
                        | (have h8 := HSL.out.src (P := Try.prog) Try.underlying27 (ints_one _); rw [ints_length, h7] at h8; exact h8)
                        | (have h8 := (HSL.out.kept ((Kept.refl _ wb).drew) (fun _ _ x => x)).src (P := Try.prog) Try.underlying27 (ints_one _); rw [ints_length, h7] at h8; exact h8)) (by unfold maxLen; omega) (by omega) (by have h9 := HKB.out.size; have h10 := HK4.out.size; simp; omega) ?_; intro v2 w5 hown hg _ hat; have hfin := FIN.out wb _ w5 v2 HKB.out (by first | exact Kept.refl _ wb | exact (Kept.refl _ wb).drew) hown hg; clear hown hg hat hb2 hb3)
                  | fail)
              have HF1 := Lib.hid hfin.1
              clear hfin
              go_wp2
              go_meet
              case rel => exact ⟨_, _, by rw [List.length_append, HADD.out]; omega, HF1.out⟩
            · have hput := bputbits_no W.heap.size p v bs bo bc lb.length z wa IA.out.wr (by omega) (by omega)
              have HPUT := Lib.hid hput
              clear hput
              by_cases g1 : 0 ≤ z
              · have g2 : ¬ z ≤ 8 * (lb.length : Int) := fun h => hok ⟨g1, h⟩
                clear hok
                go_wp2_with fail
                refine HPUT.out.mono ?_
                rintro e w' ⟨rfl, rfl⟩
                go_wp2
                go_meet
                case rel => exact ⟨_, _, by omega, IA.out⟩
              · clear hok
                go_wp2_with fail
                refine HPUT.out.mono ?_
                rintro e w' ⟨rfl, rfl⟩
                go_wp2
                go_meet
                case rel => exact ⟨_, _, by omega, IA.out⟩
          · by_cases hk2 : k = 2
            · subst hk2
              have q0 : ((2 : Int) == 0) = false := rfl
              have q1 : ((2 : Int) == 1) = false := rfl
              by_cases hok : 0 ≤ z ∧ z ≤ (bs.length : Int)
              · obtain ⟨g1, g2⟩ := hok
                obtain ⟨n, rfl⟩ : ∃ n : Nat, z = n := ⟨z.toNat, by omega⟩
                have HPUT := Lib.hid (bcut_yes W.heap.size p v bs n wa IA.out.wr (by omega) (by omega))
                have g2b : decide (n ≤ bs.length) = true := decide_eq_true (by omega)
                go_wp2_with fail
                refine HPUT.out.mono ?_
                rintro e w4 ⟨rfl, ht⟩
                obtain ⟨v4, H4, o4, K4, far⟩ := IA.out.wrote ht
                have box4 : w4.heap[pb]? = some (.cells #[.int .i64 2, .int .u64 (x : Int), .int .i64 (n : Int), .slice bo lb.length bc] 31 (0, 0)) := by
                  rw [far pb (Array.getElem?_eq_some_iff.1 HBX.out).1 hpp hvp]; exact HBX.out
                obtain ⟨d1, d2, d3⟩ := BOX.out w4 box4
                have hlt4 : pb < w4.heap.size := World.block_lt_of_cell? w4 _ d2
                have hne4 : pb ≠ w4.heap.size := by omega
                have hne5 : ¬ (w4.heap.size = pb) := by omega
                have d2a : ∀ o, (w4.alloc o).cell? ⟨pb, 2, none⟩ = some (.int .i64 (n : Int)) := fun o => ((Kept.refl (fun _ => False) w4).alloc o).cell d2 (fun x => x)
                have hcap4 := own_cap o4
                have s1 := fun w => run_cutH (P := Try.prog) Try.underlying27 hiI hzI1 aa bs.length ca2 n (by omega) w
                have s2 := fun w => run_cutHAt (P := Try.prog) Try.underlying27 hiI hzI1 aa bs.length ca2 n (by omega) w
                have ka : Kept (fun _ => False) w4 (w4.alloc (.cells #[] 3)) := (Kept.refl _ w4).alloc _
                have h5 := SlAt.ofOwn (own_takeH (ka.owns o4 (fun _ _ x => x)) (k := n) (by omega))
                have h6 : (ints bs).take n = ints (bs.take n) := by unfold ints; rw [List.map_take]
                rw [h6] at h5
                have hsrc := h5.src (P := Try.prog) Try.underlying27 (ints_one _)
                have h7 : (bs.take n).length = n := by rw [List.length_take]; omega
                rw [ints_length, h7] at hsrc
                have hown0 : (w4.alloc (.cells #[] 3)).ownsRow W.heap.size 3 1 (.slice (some ⟨w4.heap.size, 0, none⟩) 0 0) 0 [] :=
                  ⟨rfl, .inr ⟨w4.heap.size, 0, #[], rfl, K4.size, heap_alloc_new w4 _, Nat.le_refl _, by unfold maxLen; omega, rfl, rfl⟩⟩
                have H7 := Lib.hid h7
                have HH4 := Lib.hid H4
                have HK4 := Lib.hid K4
                clear ht H4 far box4 d1 h5 h6 h7 c1 c2 c3 ka
                go_wp2_with (at_builtin; go_loud (refine wpList_append_src _ rfl (.tmp 101) (.tmp 105) 27 27 rfl W.heap.size 3 iI (.int .i64 0) 1 8 Try.underlying27 hiI hzI0 hzI1 hzI2 rfl (.slice (some ⟨w4.heap.size, 0, none⟩) 0 0) 0 [] rfl hown0 (.slice aa n ca2) n (ints (bs.take n)) rfl hsrc ?c1 ?c2 ?c3 ?_))
                case c1 => unfold maxLen; omega
                case c2 => omega
                case c3 => have := K4.size; simp; omega
                intro v2 w5 hown5 hg _ hat
                have k5 : Kept (fun _ => False) w4 w5 := ((Kept.refl _ w4).alloc _).grown hg (fun k e hlt => by simp [Value.ownBlock] at e; omega)
                have fin : PutInv W w5 p v4 (bs.take n) v2 := ⟨HH4.out.keptF k5, by rw [H7.out]; exact hown5, HK4.out.trans k5⟩
                have FIN := Lib.hid fin
                clear hown5 hg hat o4 hsrc hown0 fin k5 K4
                go_wp2
                go_meet
                case rel => exact ⟨_, _, by rw [H7.out]; omega, FIN.out⟩
              · have HPUT := Lib.hid (bcut_no W.heap.size p v bs z wa IA.out.wr (by omega))
                by_cases g1 : 0 ≤ z
                · have g2 : ¬ z ≤ (bs.length : Int) := fun h => hok ⟨g1, h⟩
                  clear hok
                  go_wp2_with fail
                  refine HPUT.out.mono ?_
                  rintro e w' ⟨rfl, rfl⟩
                  go_wp2
                  go_meet
                  case rel => exact ⟨_, _, by omega, IA.out⟩
                · clear hok
                  go_wp2_with fail
                  refine HPUT.out.mono ?_
                  rintro e w' ⟨rfl, rfl⟩
                  go_wp2
                  go_meet
                  case rel => exact ⟨_, _, by omega, IA.out⟩
            · have q0 : (k == 0) = false := by simp [hk0]
              have q1 : (k == 1) = false := by simp [hk1]
              have q2 : (k == 2) = false := by simp [hk2]
              go_wp2
              go_meet
              case rel => exact ⟨_, _, by omega, IA.out⟩
      case rest =>
        obtain ⟨v', bs', hbl', I'⟩ := hcut
        obtain ⟨aa, ca2, rfl⟩ := ownsRow_slice I'.own
        have HI' := Lib.hid I'
        have hlen : ∀ w', Kept (fun _ => False) wc w' → Calls Try.prog 20 #[.pointer (some ⟨p, 0, none⟩)] w' fun e w'' => e = .returned (.int .i64 bs'.length) ∧ w' = w'' := fun w' h => bwlen_any W.heap.size p v' bs' w' (HI'.out.keptF h).wr
        have hbyt : ∀ w', Kept (fun _ => False) wc w' → Calls Try.prog 21 #[.pointer (some ⟨p, 0, none⟩)] w' fun e w6 => ∃ vb, e = .returned vb ∧ (∀ w'', Kept (fun _ => False) w6 w'' → (convert 29 9 vb).run Try.prog w'' = .ok (.string (strN (packB bs'))) w'') ∧ Kept (fun _ => False) w' w6 := fun w' h => by
          refine (bwbytes_any W.heap.size p v' bs' w' (HI'.out.keptF h).wr (by omega)).mono ?_
          rintro e w6 ⟨vb, rfl, ho, hk⟩
          exact ⟨vb, rfl, fun w'' hk2 => run_strN ((SlAt.ofOwn ho).kept hk2 (fun _ _ x => x)) 29 5 9 Try.underlying29 Try.underlying5 Try.underlying9, hk⟩
        have href : ∀ w', Kept (fun _ => False) wc w' → Calls Try.prog 22 #[.slice aa bs'.length ca2] w' fun e w6 => ∃ vb, e = .returned vb ∧ (∀ w'', Kept (fun _ => False) w6 w'' → (convert 29 9 vb).run Try.prog w'' = .ok (.string (strN (packB bs'))) w'') ∧ Kept (fun _ => False) w' w6 := fun w' h => by
          refine (refBytes_any _ bs' w' (SlAt.ofOwn (HI'.out.keptF h).own) (by omega)).mono ?_
          rintro e w6 ⟨vb, rfl, ho, hk⟩
          exact ⟨vb, rfl, fun w'' hk2 => run_strN ((SlAt.ofOwn ho).kept hk2 (fun _ _ x => x)) 29 5 9 Try.underlying29 Try.underlying5 Try.underlying9, hk⟩
        have HLEN := Lib.hid hlen
        have HBYT := Lib.hid hbyt
        have HREF := Lib.hid href
        obtain ⟨STR, hSTR⟩ : ∃ S, S = strN (packB bs') := ⟨_, rfl⟩
        rw [← hSTR] at HBYT HREF
        have kd : Kept (fun _ => False) wc wc.drew := (Kept.refl _ wc).drew
        clear hlen hbyt href I' hSTR
        go_wp2
        go_region_with (first
          | (go_at_call 20; refine (HLEN.out _ kd).mono ?_; rintro e w' ⟨rfl, rfl⟩)
          | (go_at_call 21; first | (refine (HBYT.out _ kd).mono ?_; rintro e w6 ⟨vb, rfl, hcv, k6⟩; have k66 := Kept.refl (fun _ => False) w6) | (refine (HBYT.out _ (kd.trans k7)).mono ?_; rintro e w6 ⟨vb, rfl, hcv, k6⟩; have k66 := Kept.refl (fun _ => False) w6))
          | (go_at_call 22; first | (refine (HREF.out _ kd).mono ?_; rintro e w7 ⟨vc, rfl, hcw, k7⟩; have k77 := Kept.refl (fun _ => False) w7) | (refine (HREF.out _ (kd.trans k6)).mono ?_; rintro e w7 ⟨vc, rfl, hcw, k7⟩; have k77 := Kept.refl (fun _ => False) w7))
          | fail)
        all_goals
          go_wp2
          go_roundg (rs.length - (i + 1))
          case measure => have := HD.out; omega
          case rel => exact ⟨i + 1, HD.out, rfl, by go_num, v', bs', hbl', HI'.out.keptF (by first | exact (kd.trans k6).trans k7 | exact (kd.trans k7).trans k6 | exact ((kd.trans k6).trans k7).drewN _ | exact ((kd.trans k7).trans k6).drewN _)⟩
    · obtain rfl : i = rs.length := by omega
      go_wp2
      go_ret
      exact ⟨rfl, I.kept⟩
end Go.Proofs.Ytanhdjdojeoodaa
