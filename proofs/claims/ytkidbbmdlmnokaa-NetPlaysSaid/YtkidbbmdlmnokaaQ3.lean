/- Layer 2: what holds while words are put down; the walk of 'PackWrites'. -/
import Derived.Test.YtkidbbmdlmnokaaQ2
import Derived.Deep.RegionWith
import Derived.Deep.CutBlock
namespace Go.Proofs.Ytkidbbmdlmnokaa
open Go.RowKit
attribute [local go_sem ↓] Go.wp_at_zero Go.wp_at_succ

/-- A word's bytes. -/
def wordB (r : WRec) : List Int :=
  if r.k = 0 then numB r.v else if r.k = 1 then numB (zigI r.n) else if r.k = 2 then fixB r.v else if r.k = 3 then numB r.s.size ++ strB r.s else if r.k = 4 then strB r.s else []

theorem wafter {S : Nat → Prop} {W w w1 : World} (h : Kept (fun _ => False) W w) (k : Kept S w w1) (hs : ∀ k, S k → W.heap.size ≤ k) : Kept (fun _ => False) W w1 :=
  h.step k (fun j hj hS => by have := hs j hS; omega)

theorem own_ne_box {w : World} {B : Nat} {E T : TypeId} {v : Value} {n s : Nat} {xs : List Value} {p : Nat} {cs : Array Value} (h : w.ownsRow B E s v n xs) (hp : w.heap[p]? = some (.cells cs T (0, 0))) (hne : E ≠ T) : v.ownBlock ≠ some p := by
  intro e
  obtain ⟨c, hc⟩ := ownsRow_block h e
  rw [hc] at hp
  injection hp with hp
  injection hp with _ ht
  exact hne ht

/-- What holds while words are put down and listed. -/
structure PW (W w : World) (p : Nat) (v : Value) (l : List Int) (av : Value) : Prop where
  wr : WrAt 110 5 w W.heap.size p v l
  own : w.ownsRow W.heap.size 5 1 av l.length (u8s l)
  apart : ∀ k, av.ownBlock = some k → v.ownBlock ≠ some k
  kept : Kept (fun _ => False) W w

theorem PW.keptF {W w w1 : World} {p : Nat} {v av : Value} {l : List Int} (h : PW W w p v l av) (hk : Kept (fun _ => False) w w1) : PW W w1 p v l av :=
  ⟨h.wr.kept hk (fun x => x) (fun _ _ x => x), hk.owns h.own (fun _ _ x => x), h.apart, h.kept.trans hk⟩

/-- The writer has gone on; the list not yet. -/
theorem PW.wrote {W w w1 : World} {p : Nat} {v av : Value} {l l1 : List Int} (h : PW W w p v l av) (ht : WrTo 110 5 w w1 W.heap.size p v l1) :
    ∃ v1, WrAt 110 5 w1 W.heap.size p v1 l1 ∧ w1.ownsRow W.heap.size 5 1 av l.length (u8s l) ∧ (∀ k, av.ownBlock = some k → v1.ownBlock ≠ some k) ∧ Kept (fun _ => False) W w1 ∧ (∀ k, k < w.heap.size → k ≠ p → v.ownBlock ≠ some k → w1.heap[k]? = w.heap[k]?) := by
  obtain ⟨v1, H1, A1, K1⟩ := ht
  refine ⟨v1, H1, K1.owns h.own (fun k e hS => ?_), fun k e e1 => ?_, wafter h.kept K1 (fun k hS => ?_), fun k hk hp hv => K1.block k hk (fun hS => hS.elim hp hv)⟩
  · rcases hS with rfl | hS
    · exact own_ne_box h.own h.wr.box (by decide) e
    · exact h.apart k e hS
  · rcases A1 with A1 | ⟨g, eg, hg⟩
    · exact h.apart k e (A1 ▸ e1)
    · rw [eg] at e1; cases e1
      have := (ownsRow_lt h.own e).1; omega
  · rcases hS with rfl | hS
    · exact h.wr.base
    · exact (ownsRow_lt h.wr.owns hS).2

/-- And now the list, too. -/
theorem PW.listed {W w1 wa w2 : World} {p n : Nat} {v1 av av2 : Value} {l add : List Int} (H1 : WrAt 110 5 w1 W.heap.size p v1 (l ++ add)) (ho : w1.ownsRow W.heap.size 5 1 av l.length (u8s l)) (hap : ∀ k, av.ownBlock = some k → v1.ownBlock ≠ some k) (hk : Kept (fun _ => False) W w1)
    (ha : Kept (fun _ => False) w1 wa) (hown : w2.ownsRow W.heap.size 5 1 av2 n (u8s l ++ u8s add)) (hn : n = l.length + add.length) (hg : wa.grownBy w2 av.ownBlock) (hat : av2.ownBlock = av.ownBlock ∨ av2.ownBlock = some wa.heap.size) : PW W w2 p v1 (l ++ add) av2 := by
  have k2 : Kept (fun k => av.ownBlock = some k) w1 w2 := (ha.mono (fun _ _ x => x.elim)).grown hg (fun k e _ => e)
  refine ⟨H1.kept k2 (fun e => own_ne_box ho H1.box (by decide) e) (fun k e hS => hap k hS e), ?_, fun k e e1 => ?_, wafter hk k2 (fun k e => (ownsRow_lt ho e).2)⟩
  · rw [List.length_append, ← hn]; unfold u8s at hown ⊢; rw [List.map_append]; exact hown
  · rcases hat with hat | hat
    · exact hap k (hat ▸ e) e1
    · rw [hat] at e; cases e
      have h1 := (ownsRow_lt H1.owns e1).1
      have h2 := ha.size
      omega

theorem wbox_cells {T : TypeId} {pb : Nat} {k n x : Int} {s : ByteArray} : ∀ w' : World, w'.heap[pb]? = some (.cells #[.int .i64 k, .int .i64 n, .int .u64 x, .string s] T (0, 0)) →
    w'.cell? ⟨pb, 1, none⟩ = some (.int .i64 n) ∧ w'.cell? ⟨pb, 2, none⟩ = some (.int .u64 x) ∧ w'.cell? ⟨pb, 3, none⟩ = some (.string s) := fun w' h =>
  ⟨by rw [cell_of_row w' pb 1 _ _ _ h]; rfl, by rw [cell_of_row w' pb 2 _ _ _ h]; rfl, by rw [cell_of_row w' pb 3 _ _ _ h]; rfl⟩

theorem numB_len (x : Int) : (numB x).length ≤ 9 := by rw [numB_length]; have := oth_le x; omega

set_option maxHeartbeats 4000000 in
set_option maxRecDepth 100000 in
theorem packWrites_walk0 (ao : Option Addr) (ca : Nat) (rs : List WRec) (W : World) (hr : WordsAt W ao rs) (hfew : fewW rs = true) :
    Calls Try.prog 10 #[.slice ao rs.length ca] W fun e w' => e = .returned (.bool true) ∧ Kept (fun _ => False) W w' := by
  obtain ⟨i0, hi, hz0, hz1, hz2⟩ := info_parts Try.info5
  have HR := Lib.hid hr
  have HA := Lib.hid (awake2_any W)
  have hl : rs.length ≤ 60 ∧ ∀ r ∈ rs, r.s.size ≤ 300 := by
    unfold fewW at hfew
    simpa using hfew
  have HFEW := Lib.hid hfew
  have HL40 := Lib.hid hl.2
  have hl1 := hl.1
  clear hr hl hfew
  go_enter Try.func10, Try.ntmps10
  go_wp2_with fail
  refine HA.out.mono ?_
  rintro e w1 ⟨rfl, K1⟩
  have B1 := K1.size
  go_wp2_with fail
  refine (some2_any ao ca rs w1 (HR.out.kept K1) (by omega)).mono ?_
  rw [HFEW.out]
  rintro e w' ⟨rfl, rfl⟩
  go_wp2_with fail
  refine (newWriter_any w1).mono ?_
  rintro e w2 ⟨rfl, hw2⟩
  have H0 := newWriter_at W.heap.size w1 B1
  rw [← hw2] at H0
  have I0 : PW W w2 w1.heap.size (.slice none 0 0) [] (.slice none 0 0) := ⟨H0, World.ownsRow_nil _ _ _ _, fun k e => by simp [Value.ownBlock] at e, by rw [hw2]; exact K1.alloc _⟩
  obtain ⟨p, hp⟩ : ∃ p, p = w1.heap.size := ⟨_, rfl⟩
  rw [← hp] at I0 ⊢
  clear H0 hw2 hp B1 K1
  go_wp2
  go_loopg [4, 5] rs.length (fun g s4 s5 wr => ∃ i : Nat, i ≤ rs.length ∧ g = rs.length - i ∧ s5 = .int .i64 i ∧ ∃ v l, l.length ≤ 400 * i ∧ PW W wr p v l s4)
  case atStart => exact ⟨0, Nat.zero_le _, rfl, rfl, _, _, by decide, I0⟩
  case round =>
    obtain ⟨i, hil, rfl, rfl, v, l, hbl, I⟩ := hrel
    clear I0
    by_cases hd : i < rs.length
    · obtain ⟨g, o, rfl, hrec⟩ := HR.out (by omega)
      have hi0 := hrec i rs[i] (List.getElem?_eq_getElem hd)
      have hi' := hi0.kept I.kept
      have hl40 := HL40.out rs[i] (List.getElem_mem hd)
      obtain ⟨r, hrr⟩ : ∃ r, r = rs[i] := ⟨_, rfl⟩
      rw [← hrr] at hi' hl40
      obtain ⟨k, n, x, s⟩ := r
      obtain ⟨ck, cn, cv, cs, hn, hx⟩ := hi'
      simp only at ck cn cv cs hn hx hl40
      have hdi : (i : Int) < (rs.length : Int) := by omega
      have hdi0 : (0 : Int) ≤ (i : Int) := by omega
      have HD := Lib.hid hd
      have HI := Lib.hid I
      have HX := Lib.hid hx
      have HN := Lib.hid hn
      clear hrec hrr hi0 hd I hx hn
      go_upto_block 2 with fail
      obtain ⟨pb, hpb⟩ : ∃ pb, pb = wr.heap.size := ⟨_, rfl⟩
      rw [← hpb]
      have HPB := Lib.hid hpb
      clear hpb
      go_cut [4] (fun s4 wc => ∃ v' l', l'.length ≤ 400 * (i + 1) ∧ PW W wc p v' l' s4)
      case first =>
        obtain ⟨wa, hwa⟩ : ∃ wa, wa = wr.alloc (.cells #[.int .i64 k, .int .i64 n, .int .u64 x, .string s] 78) := ⟨_, rfl⟩
        have hpb := HPB.out
        have hbox : wa.heap[pb]? = some (.cells #[.int .i64 k, .int .i64 n, .int .u64 x, .string s] 78 (0, 0)) := by rw [hwa, hpb]; exact heap_alloc_new wr _
        have hka : Kept (fun _ => False) wr wa := by rw [hwa]; exact (Kept.refl _ wr).alloc _
        have Ia := HI.out.keptF hka
        have hpp : pb ≠ p := by have := HI.out.wr.lt; omega
        have hvp : v.ownBlock ≠ some pb := fun e => by have := (ownsRow_lt HI.out.wr.owns e).1; omega
        obtain ⟨aa, ca2, rfl⟩ := ownsRow_slice Ia.own
        rw [← hwa]
        have hblen : l.length ≤ 100000 := by omega
        have HBX := Lib.hid hbox
        have IA := Lib.hid Ia
        obtain ⟨c1, c2, c3⟩ := wbox_cells wa hbox
        have hsz : wa.heap.size = wa.heap.size := rfl
        have HFAR : Hid (∀ w4 : World, (∀ k, k < wa.heap.size → k ≠ p → v.ownBlock ≠ some k → w4.heap[k]? = wa.heap[k]?) → w4.cell? ⟨pb, 1, none⟩ = some (.int .i64 n) ∧ w4.cell? ⟨pb, 2, none⟩ = some (.int .u64 x) ∧ w4.cell? ⟨pb, 3, none⟩ = some (.string s)) := Lib.hid (fun w4 far => wbox_cells w4 (by rw [far pb (Array.getElem?_eq_some_iff.1 HBX.out).1 hpp hvp]; exact HBX.out))
        have hbl0 := hbl
        clear hwa hpb hbox hka Ia hsz ck cn cv cs
        by_cases hk0 : k = 0
        · subst hk0
          obtain ⟨add, hadd⟩ : ∃ add, add = numB x := ⟨_, rfl⟩
          have haddl : add.length ≤ 9 := by rw [hadd]; exact numB_len x
          have HNUM := Lib.hid (num_any W.heap.size p v l x wa IA.out.wr IA.out.kept.size HX.out.1 HX.out.2 (by omega))
          have HREF := Lib.hid (fun w => refNum_any x w HX.out.1 HX.out.2)
          rw [← hadd] at HNUM HREF
          clear hadd
          go_wp2_with fail
          refine HNUM.out.mono ?_
          rintro e w4 ⟨rfl, ht⟩
          obtain ⟨v4, H4, o4, A4, K4, far⟩ := IA.out.wrote ht
          obtain ⟨d1, d2, d3⟩ := HFAR.out w4 far
          have HH4 := Lib.hid H4
          have HA4 := Lib.hid A4
          have HK4 := Lib.hid K4
          have HO4 := Lib.hid o4
          clear ht H4 A4 K4 far o4 c1 c2 c3
          go_wp2_with fail
          refine (HREF.out w4).mono ?_
          rintro e w5 ⟨vr, rfl, hor, K5⟩
          have hsrc := (ownsRow.src hor Try.underlying27 (u8s_one _) : Src Try.prog 1 27 vr add.length (u8s add) w5)
          have ho5 := K5.owns HO4.out (fun _ _ x => x)
          have HK5 := Lib.hid K5
          clear hor K5
          go_wp2_with (at_builtin; refine wpList_append_src _ rfl (.tmp 31) (.tmp 34) 27 27 rfl W.heap.size 5 i0 (.int .u8 0) 1 1 Try.underlying27 hi hz0 hz1 hz2 rfl (.slice aa l.length ca2) l.length (u8s l) rfl ho5 vr add.length (u8s add) rfl hsrc ?c1 ?c2 ?c3 ?_)
          case c1 => unfold maxLen; omega
          case c2 => omega
          case c3 => have := HK4.out.size; have := HK5.out.size; omega
          intro v6 w6 hown6 hg _ hat
          have fin := Lib.hid (PW.listed HH4.out HO4.out HA4.out HK4.out HK5.out hown6 rfl hg hat)
          clear hown6 hg hat hsrc ho5
          go_wp2
          go_meet
          case rel => exact ⟨_, _, by rw [List.length_append]; omega, fin.out⟩
        · by_cases hk1 : k = 1
          · subst hk1
            have q0 : ((1 : Int) == 0) = false := rfl
            obtain ⟨z, hz⟩ : ∃ z, z = zigI n := ⟨_, rfl⟩
            have hzr := zigI_range n HN.out.1 HN.out.2
            obtain ⟨add, hadd⟩ : ∃ add, add = numB (zigI n) := ⟨_, rfl⟩
            have haddl : add.length ≤ 9 := by rw [hadd]; exact numB_len _
            have HNUM := Lib.hid (int_any W.heap.size p v l n wa IA.out.wr IA.out.kept.size HN.out.1 HN.out.2 (by omega))
            have HREF := Lib.hid (fun w => refNum_any (zigI n) w hzr.1 hzr.2)
            have HZIG := Lib.hid (fun w => refZig_any n HN.out.1 HN.out.2 w)
            rw [← hadd] at HNUM HREF
            rw [← hz] at HREF HZIG
            clear hadd hz hzr
            go_wp2_with fail
            refine HNUM.out.mono ?_
            rintro e w4 ⟨rfl, ht⟩
            obtain ⟨v4, H4, o4, A4, K4, far⟩ := IA.out.wrote ht
            obtain ⟨d1, d2, d3⟩ := HFAR.out w4 far
            have HH4 := Lib.hid H4
            have HA4 := Lib.hid A4
            have HK4 := Lib.hid K4
            have HO4 := Lib.hid o4
            clear ht H4 A4 K4 far o4 c1 c2 c3
            go_wp2_with fail
            refine (HZIG.out w4).mono ?_
            rintro e w' ⟨rfl, rfl⟩
            go_wp2_with fail
            refine (HREF.out w4).mono ?_
            rintro e w5 ⟨vr, rfl, hor, K5⟩
            have hsrc := (ownsRow.src hor Try.underlying27 (u8s_one _) : Src Try.prog 1 27 vr add.length (u8s add) w5)
            have ho5 := K5.owns HO4.out (fun _ _ x => x)
            have HK5 := Lib.hid K5
            clear hor K5
            go_wp2_with (at_builtin; refine wpList_append_src _ rfl (.tmp 42) (.tmp 46) 27 27 rfl W.heap.size 5 i0 (.int .u8 0) 1 1 Try.underlying27 hi hz0 hz1 hz2 rfl (.slice aa l.length ca2) l.length (u8s l) rfl ho5 vr add.length (u8s add) rfl hsrc ?c1 ?c2 ?c3 ?_)
            case c1 => unfold maxLen; omega
            case c2 => omega
            case c3 => have := HK4.out.size; have := HK5.out.size; omega
            intro v6 w6 hown6 hg _ hat
            have fin := Lib.hid (PW.listed HH4.out HO4.out HA4.out HK4.out HK5.out hown6 rfl hg hat)
            clear hown6 hg hat hsrc ho5
            go_wp2
            go_meet
            case rel => exact ⟨_, _, by rw [List.length_append]; omega, fin.out⟩
          · by_cases hk2 : k = 2
            · subst hk2
              have q0 : ((2 : Int) == 0) = false := rfl
              have q1 : ((2 : Int) == 1) = false := rfl
              obtain ⟨add, hadd⟩ : ∃ add, add = fixB x := ⟨_, rfl⟩
              have haddl : add.length ≤ 9 := by rw [hadd]; simp [fixB]
              have HNUM := Lib.hid (wfix_any W.heap.size p v l x wa IA.out.wr IA.out.kept.size (by omega))
              have HREF := Lib.hid (fun w => refFix_any x w HX.out.1 HX.out.2)
              rw [← hadd] at HNUM HREF
              clear hadd
              go_wp2_with fail
              refine HNUM.out.mono ?_
              rintro e w4 ⟨rfl, ht⟩
              obtain ⟨v4, H4, o4, A4, K4, far⟩ := IA.out.wrote ht
              obtain ⟨d1, d2, d3⟩ := HFAR.out w4 far
              have HH4 := Lib.hid H4
              have HA4 := Lib.hid A4
              have HK4 := Lib.hid K4
              have HO4 := Lib.hid o4
              clear ht H4 A4 K4 far o4 c1 c2 c3
              go_wp2_with fail
              refine (HREF.out w4).mono ?_
              rintro e w5 ⟨vr, rfl, hor, K5⟩
              have hsrc := (ownsRow.src hor Try.underlying27 (u8s_one _) : Src Try.prog 1 27 vr add.length (u8s add) w5)
              have ho5 := K5.owns HO4.out (fun _ _ x => x)
              have HK5 := Lib.hid K5
              clear hor K5
              go_wp2_with (at_builtin; refine wpList_append_src _ rfl (.tmp 54) (.tmp 57) 27 27 rfl W.heap.size 5 i0 (.int .u8 0) 1 1 Try.underlying27 hi hz0 hz1 hz2 rfl (.slice aa l.length ca2) l.length (u8s l) rfl ho5 vr add.length (u8s add) rfl hsrc ?c1 ?c2 ?c3 ?_)
              case c1 => unfold maxLen; omega
              case c2 => omega
              case c3 => have := HK4.out.size; have := HK5.out.size; omega
              intro v6 w6 hown6 hg _ hat
              have fin := Lib.hid (PW.listed HH4.out HO4.out HA4.out HK4.out HK5.out hown6 rfl hg hat)
              clear hown6 hg hat hsrc ho5
              go_wp2
              go_meet
              case rel => exact ⟨_, _, by rw [List.length_append]; omega, fin.out⟩
            · by_cases hk3 : k = 3
              · subst hk3
                have q0 : ((3 : Int) == 0) = false := rfl
                have q1 : ((3 : Int) == 1) = false := rfl
                have q2 : ((3 : Int) == 2) = false := rfl
                obtain ⟨add, hadd⟩ : ∃ add, add = numB s.size ++ strB s := ⟨_, rfl⟩
                have haddl : add.length ≤ 309 := by rw [hadd, List.length_append, strB_length]; have := numB_len s.size; omega
                have HNUM := Lib.hid (text_any W.heap.size p v l s wa IA.out.wr IA.out.kept.size (by omega) (by omega))
                have HREF := Lib.hid (fun w => refText_any s w (by omega))
                rw [List.append_assoc, ← hadd] at HNUM
                rw [← hadd] at HREF
                clear hadd
                go_wp2_with fail
                refine HNUM.out.mono ?_
                rintro e w4 ⟨rfl, ht⟩
                obtain ⟨v4, H4, o4, A4, K4, far⟩ := IA.out.wrote ht
                obtain ⟨d1, d2, d3⟩ := HFAR.out w4 far
                have HH4 := Lib.hid H4
                have HA4 := Lib.hid A4
                have HK4 := Lib.hid K4
                have HO4 := Lib.hid o4
                clear ht H4 A4 K4 far o4 c1 c2 c3
                go_wp2_with fail
                refine (HREF.out w4).mono ?_
                rintro e w5 ⟨vr, rfl, hor, K5⟩
                have hsrc := (ownsRow.src hor Try.underlying27 (u8s_one _) : Src Try.prog 1 27 vr add.length (u8s add) w5)
                have ho5 := K5.owns HO4.out (fun _ _ x => x)
                have HK5 := Lib.hid K5
                clear hor K5
                go_wp2_with (at_builtin; refine wpList_append_src _ rfl (.tmp 65) (.tmp 68) 27 27 rfl W.heap.size 5 i0 (.int .u8 0) 1 1 Try.underlying27 hi hz0 hz1 hz2 rfl (.slice aa l.length ca2) l.length (u8s l) rfl ho5 vr add.length (u8s add) rfl hsrc ?c1 ?c2 ?c3 ?_)
                case c1 => unfold maxLen; omega
                case c2 => omega
                case c3 => have := HK4.out.size; have := HK5.out.size; omega
                intro v6 w6 hown6 hg _ hat
                have fin := Lib.hid (PW.listed HH4.out HO4.out HA4.out HK4.out HK5.out hown6 rfl hg hat)
                clear hown6 hg hat hsrc ho5
                go_wp2
                go_meet
                case rel => exact ⟨_, _, by rw [List.length_append]; omega, fin.out⟩
              · by_cases hk4 : k = 4
                · subst hk4
                  have q0 : ((4 : Int) == 0) = false := rfl
                  have q1 : ((4 : Int) == 1) = false := rfl
                  have q2 : ((4 : Int) == 2) = false := rfl
                  have q3 : ((4 : Int) == 3) = false := rfl
                  obtain ⟨wb, hwb⟩ : ∃ wb, wb = Lib.bytesWorld wa 5 s := ⟨_, rfl⟩
                  obtain ⟨gc, hgc⟩ : ∃ gc, gc = grownCap wa s.size 0 5 := ⟨_, rfl⟩
                  have hcv := strBytes_run (P := Try.prog) wa 9 27 s Try.underlying9 Try.underlying27 Try.underlying5
                  rw [← hwb, ← hgc] at hcv
                  have hkb : Kept (fun _ => False) wa wb := by rw [hwb]; exact strBytes_kept wa _ s
                  have hsb : Src Try.prog 1 27 (.slice (some ⟨wa.heap.size, 0, none⟩) s.size gc) (strB s).length (u8s (strB s)) wb := by rw [hwb]; exact strBytes_src wa _ _ s gc Try.underlying27
                  have Ib := Lib.hid (IA.out.keptF hkb)
                  obtain ⟨add, hadd⟩ : ∃ add, add = strB s := ⟨_, rfl⟩
                  have haddl : add.length ≤ 300 := by rw [hadd, strB_length]; omega
                  have hal : add.length = s.size := by rw [hadd, strB_length]
                  have hac : u8s add = byteCells s := by rw [hadd]; exact strB_cells s
                  rw [← hadd] at hsb
                  have HRAW := Lib.hid (raw_any W.heap.size p v l add _ wb Ib.out.wr Ib.out.kept.size hsb (by omega))
                  have HFAR2 : Hid (∀ w4 : World, (∀ k, k < wb.heap.size → k ≠ p → v.ownBlock ≠ some k → w4.heap[k]? = wb.heap[k]?) → w4.cell? ⟨pb, 1, none⟩ = some (.int .i64 n) ∧ w4.cell? ⟨pb, 2, none⟩ = some (.int .u64 x) ∧ w4.cell? ⟨pb, 3, none⟩ = some (.string s)) := Lib.hid (fun w4 far => wbox_cells w4 (by
                    have h1 := hkb.same HBX.out (fun x => x)
                    rw [far pb (Array.getElem?_eq_some_iff.1 h1).1 hpp hvp]; exact h1))
                  have HAL := Lib.hid hal
                  have HAC := Lib.hid hac
                  clear hwb hgc hkb hsb hadd hal hac
                  go_wp2_with fail
                  refine HRAW.out.mono ?_
                  rintro e w4 ⟨rfl, ht⟩
                  obtain ⟨v4, H4, o4, A4, K4, far⟩ := Ib.out.wrote ht
                  obtain ⟨d1, d2, d3⟩ := HFAR2.out w4 far
                  have HH4 := Lib.hid H4
                  have HA4 := Lib.hid A4
                  have HK4 := Lib.hid K4
                  clear ht H4 A4 K4 far c1 c2 c3 hcv
                  go_wp2_with (at_builtin; refine wpList_append_src _ rfl (.tmp 77) (.tmp 79) 27 9 rfl W.heap.size 5 i0 (.int .u8 0) 1 1 Try.underlying27 hi hz0 hz1 hz2 rfl (.slice aa l.length ca2) l.length (u8s l) rfl o4 (.string s) s.size (byteCells s) rfl (Src.ofString w4 Try.underlying9 s) ?c1 ?c2 ?c3 ?_)
                  case c1 => unfold maxLen; omega
                  case c2 => omega
                  case c3 => exact HK4.out.size
                  intro v6 w6 hown6 hg _ hat
                  rw [← HAC.out] at hown6
                  have fin := Lib.hid (PW.listed HH4.out o4 HA4.out HK4.out (Kept.refl _ _) hown6 (by rw [HAL.out]) hg hat)
                  clear hown6 hg hat
                  go_wp2
                  go_meet
                  case rel => exact ⟨_, _, by rw [List.length_append]; omega, fin.out⟩
                · have q0 : (k == 0) = false := by simp [hk0]
                  have q1 : (k == 1) = false := by simp [hk1]
                  have q2 : (k == 2) = false := by simp [hk2]
                  have q3 : (k == 3) = false := by simp [hk3]
                  have q4 : (k == 4) = false := by simp [hk4]
                  go_wp2
                  go_meet
                  case rel => exact ⟨_, _, by omega, IA.out⟩
      case rest =>
        obtain ⟨v', l', hbl', I'⟩ := hcut
        obtain ⟨aa, ca2, rfl⟩ := ownsRow_slice I'.own
        have HI' := Lib.hid I'
        have HLEN := Lib.hid (wlen_any W.heap.size p v' l' wc I'.wr)
        clear I'
        go_wp2_with (go_at_call 57; refine HLEN.out.mono ?_; rintro e w' ⟨rfl, rfl⟩)
        go_roundg (rs.length - (i + 1))
        case measure => have := HD.out; omega
        case rel => exact ⟨i + 1, HD.out, rfl, by go_num, v', l', hbl', HI'.out⟩
    · obtain rfl : i = rs.length := by omega
      obtain ⟨aa, ca2, rfl⟩ := ownsRow_slice I.own
      have HI' := Lib.hid I
      have hbyt : Calls Try.prog 58 #[.pointer (some ⟨p, 0, none⟩)] wr.drew fun e w6 => ∃ vb, e = .returned vb ∧ (∀ w'', Kept (fun _ => False) w6 w'' → (convert 27 9 vb).run Try.prog w'' = .ok (.string (strOfNums l)) w'') ∧ Kept (fun _ => False) wr w6 := by
        refine (wbytes_any W.heap.size p v l wr.drew (HI'.out.keptF (Kept.refl _ wr).drew).wr (by omega)).mono ?_
        rintro e w6 ⟨vb, rfl, ho, hk⟩
        exact ⟨vb, rfl, fun w'' hk2 => run_str_own (hk2.owns ho (fun _ _ x => x)) 27 5 9 Try.underlying27 Try.underlying5 Try.underlying9, (Kept.refl _ wr).drew.trans hk⟩
      have hall : ∀ w'', Kept (fun _ => False) wr w'' → (convert 27 9 (.slice aa l.length ca2)).run Try.prog w'' = .ok (.string (strOfNums l)) w'' := fun w'' hk2 => run_str_own (hk2.owns HI'.out.own (fun _ _ x => x)) 27 5 9 Try.underlying27 Try.underlying5 Try.underlying9
      have HBYT := Lib.hid hbyt
      obtain ⟨STR, hSTR⟩ : ∃ S, S = strOfNums l := ⟨_, rfl⟩
      rw [← hSTR] at HBYT hall
      have kd : Kept (fun _ => False) wr wr.drew := (Kept.refl _ wr).drew
      have k0 : Kept (fun _ => False) wr wr := Kept.refl _ wr
      clear hbyt hSTR I
      go_wp2
      go_region_with (first
        | (go_at_call 58; refine HBYT.out.mono ?_; rintro e w6 ⟨vb, rfl, hcv, k6⟩; have k66 := Kept.refl (fun _ => False) w6; have k6d := k6.drew)
        | fail)
      all_goals
        go_wp2
        go_ret
        first
          | exact ⟨rfl, HI'.out.kept.trans k6⟩
          | exact ⟨rfl, (HI'.out.kept.trans k6).drew⟩
          | exact ⟨rfl, (HI'.out.kept.trans k6).drewN _⟩
end Go.Proofs.Ytkidbbmdlmnokaa
