/- Layer 2: the walk of 'PackBack'. -/
import Derived.Test.YtanhdjdojeoodaaQ8
import Derived.Deep.RegionWith
import Derived.Deep.CutBlock
namespace Go.Proofs.Ytanhdjdojeoodaa
open Go.RowKit
attribute [local go_sem ↓] Go.wp_at_zero Go.wp_at_succ

/-- What holds while words are put down. -/
structure BW (W w : World) (p : Nat) (v : Value) (l : List Int) : Prop where
  wr : WrAt 86 5 w W.heap.size p v l
  kept : Kept (fun _ => False) W w
theorem BW.keptF {W w w1 : World} {p : Nat} {v : Value} {l : List Int} (h : BW W w p v l) (hk : Kept (fun _ => False) w w1) : BW W w1 p v l :=
  ⟨h.wr.kept hk (fun x => x) (fun _ _ x => x), h.kept.trans hk⟩
theorem BW.wrote {W w w1 : World} {p : Nat} {v : Value} {l l1 : List Int} (h : BW W w p v l) (ht : WrTo 86 5 w w1 W.heap.size p v l1) : ∃ v1, BW W w1 p v1 l1 := by
  obtain ⟨v1, H1, A1, K1⟩ := ht
  refine ⟨v1, H1, wafter h.kept K1 (fun k hS => ?_)⟩
  rcases hS with rfl | hS
  · exact h.wr.base
  · exact (ownsRow_lt h.wr.owns hS).2

/-- What holds while the bytes are cleared. -/
structure BZ (W w : World) (rp : Nat) (rv : Value) (l : List Int) (vb : Value) : Prop where
  rd : RdAt 88 5 w W.heap.size rp rv l 0 0
  row : ∃ xs, w.ownsRow W.heap.size 5 1 vb l.length xs
  apart : ∀ k, vb.ownBlock = some k → rv.ownBlock ≠ some k
  kept : Kept (fun _ => False) W w
theorem BZ.cleared {W w : World} {rp g cap j : Nat} {rv : Value} {l : List Int} {u : Value} (h : BZ W w rp rv l (.slice (some ⟨g, 0, none⟩) l.length cap)) : BZ W (w.setCell ⟨g, j, none⟩ u) rp rv l (.slice (some ⟨g, 0, none⟩) l.length cap) := by
  obtain ⟨xs, ho⟩ := h.row
  have hk : Kept (fun k => k = g) w (w.setCell ⟨g, j, none⟩ u) := (Kept.refl (fun k => k = g) w).setCell (fun _ => rfl) _
  have hgr : g ≠ rp := fun e => own_ne_box ho h.rd.box (by decide) (by rw [e]; rfl)
  exact ⟨h.rd.kept hk (fun e => hgr e.symm) (fun k e hS => h.apart g rfl (hS ▸ e)), ⟨_, (ho.stored j u).1⟩, h.apart, wafter h.kept hk (fun k e => by subst e; exact (ownsRow_lt ho rfl).2)⟩

/-- What holds while words are taken. -/
structure BR (W w : World) (rp : Nat) (rv : Value) (l : List Int) (t : Nat) : Prop where
  rd : RdAt 88 5 w W.heap.size rp rv l t 0
  kept : Kept (fun _ => False) W w
theorem BR.keptF {W w w1 : World} {rp : Nat} {rv : Value} {l : List Int} {t : Nat} (h : BR W w rp rv l t) (hk : Kept (fun _ => False) w w1) : BR W w1 rp rv l t :=
  ⟨h.rd.kept hk (fun x => x) (fun _ _ x => x), h.kept.trans hk⟩
theorem BR.took {W w w1 : World} {rp : Nat} {rv : Value} {l : List Int} {t t1 : Nat} (h : BR W w rp rv l t) (hr : RdAt 88 5 w1 W.heap.size rp rv l t1 0) (hk : Kept (fun k => k = rp) w w1) : BR W w1 rp rv l t1 :=
  ⟨hr, wafter h.kept hk (fun k e => by subst e; exact h.rd.base)⟩

set_option maxHeartbeats 4000000 in
set_option maxRecDepth 100000 in
theorem packBack_walk0 (ao : Option Addr) (ca : Nat) (rs : List WRec) (W : World) (hr : WordsAt W ao rs) (hfew : fewW rs = true) :
    Calls Try.prog 11 #[.slice ao rs.length ca] W fun e w' => e = .returned (.bool true) ∧ Kept (fun _ => False) W w' := by
  have HR := Lib.hid hr
  have HA := Lib.hid (awake2_any W)
  have hl : rs.length ≤ 60 ∧ ∀ r ∈ rs, r.s.size ≤ 300 := by
    unfold fewW at hfew
    simpa using hfew
  have HFEW := Lib.hid hfew
  have HL40 := Lib.hid hl.2
  have hl1 := hl.1
  have hwlen : ∀ i, i ≤ rs.length → (wordsB (rs.take i)).length ≤ 400 * i := by
    intro i
    induction i with
    | zero => intro _; simp [wordsB]
    | succ i ih =>
      intro hi
      rw [wordsB_snoc rs i (by omega), List.length_append]
      have h1 := ih (by omega)
      have h2 := wordB_len rs[i] (hl.2 _ (List.getElem_mem _))
      omega
  have HWL := Lib.hid hwlen
  have hwby : ∀ x ∈ wordsB rs, 0 ≤ x ∧ x < 256 := by
    intro x hx
    unfold wordsB at hx
    obtain ⟨r, hrm, hx⟩ := List.mem_flatMap.1 hx
    obtain ⟨i, hi⟩ := List.getElem?_of_mem hrm
    obtain ⟨g, o, _, hrec⟩ := hr (List.length_pos_of_mem hrm)
    have h1 := hrec i r hi
    exact wordB_byte r h1.hn h1.hv (hl.2 r hrm) x hx
  have HWB := Lib.hid hwby
  have hw0 : wordsB (rs.take 0) = [] := rfl
  have HW0 := Lib.hid hw0
  clear hr hl hfew hwlen hwby hw0
  go_enter Try.func11, Try.ntmps11
  go_wp2_with fail
  refine HA.out.mono ?_
  rintro e w1 ⟨rfl, K1⟩
  have B1 := K1.size
  go_wp2_with fail
  refine (some2_any ao ca rs w1 (HR.out.kept K1) (by omega)).mono ?_
  rw [HFEW.out]
  rintro e w' ⟨rfl, rfl⟩
  go_wp2_with fail
  refine (newWriter_any w1).mono ?_
  rintro e w2 ⟨rfl, hw2⟩
  have H0 := newWriter_at W.heap.size w1 B1
  rw [← hw2] at H0
  have I0 : BW W w2 w1.heap.size (.slice none 0 0) (wordsB (rs.take 0)) := ⟨by rw [HW0.out]; exact H0, by rw [hw2]; exact K1.alloc _⟩
  obtain ⟨p, hp⟩ : ∃ p, p = w1.heap.size := ⟨_, rfl⟩
  rw [← hp] at I0 ⊢
  clear H0 hw2 hp B1 K1
  go_wp2
  go_loopg [4] rs.length (fun g s4 wr => ∃ i : Nat, i ≤ rs.length ∧ g = rs.length - i ∧ s4 = .int .i64 i ∧ ∃ v, BW W wr p v (wordsB (rs.take i)))
  case atStart => exact ⟨0, Nat.zero_le _, rfl, rfl, _, I0⟩
  case round =>
    obtain ⟨i, hil, rfl, rfl, v, I⟩ := hrel
    clear I0
    by_cases hd : i < rs.length
    · obtain ⟨g, o, rfl, hrec⟩ := HR.out (by omega)
      have hi0 := hrec i rs[i] (List.getElem?_eq_getElem hd)
      have hi' := hi0.kept I.kept
      have hl40 := HL40.out rs[i] (List.getElem_mem hd)
      have hsn := wordsB_snoc rs i hd
      have hbl := HWL.out i hil
      obtain ⟨r, hrr⟩ : ∃ r, r = rs[i] := ⟨_, rfl⟩
      rw [← hrr] at hi' hl40 hsn
      obtain ⟨k, n, x, s⟩ := r
      obtain ⟨ck, cn, cv, cs, hn, hx⟩ := hi'
      simp only at ck cn cv cs hn hx hl40
      obtain ⟨l, hll⟩ : ∃ l, l = wordsB (rs.take i) := ⟨_, rfl⟩
      obtain ⟨l2, hl2⟩ : ∃ l2, l2 = wordsB (rs.take (i + 1)) := ⟨_, rfl⟩
      rw [← hll] at hsn hbl I
      rw [← hl2] at hsn
      have hblen : l.length ≤ 100000 := by omega
      have hdi : (i : Int) < (rs.length : Int) := by omega
      have hdi0 : (0 : Int) ≤ (i : Int) := by omega
      have HD := Lib.hid hd
      have HI := Lib.hid I
      have HX := Lib.hid hx
      have HN := Lib.hid hn
      have HSN := Lib.hid hsn
      have HL2 := Lib.hid hl2
      clear hrec hrr hi0 hd I hx hn hll hl2 hsn
      go_upto_block 1 with fail
      go_cut [4] (fun s4 wc => s4 = .int .i64 (i : Int) ∧ ∃ v', BW W wc p v' l2)
      case first =>
        go_upto_block 2 with fail
        obtain ⟨pb, hpb⟩ : ∃ pb, pb = wr.heap.size := ⟨_, rfl⟩
        rw [← hpb]
        have HPB := Lib.hid hpb
        clear hpb
        obtain ⟨wa, hwa⟩ : ∃ wa, wa = wr.alloc (.cells #[.int .i64 k, .int .i64 n, .int .u64 x, .string s] 58) := ⟨_, rfl⟩
        have hpb := HPB.out
        have hbox : wa.heap[pb]? = some (.cells #[.int .i64 k, .int .i64 n, .int .u64 x, .string s] 58 (0, 0)) := by rw [hwa, hpb]; exact heap_alloc_new wr _
        have hka : Kept (fun _ => False) wr wa := by rw [hwa]; exact (Kept.refl _ wr).alloc _
        have IA := Lib.hid (HI.out.keptF hka)
        rw [← hwa]
        obtain ⟨c1, c2, c3⟩ := wbox_cells wa hbox
        clear hwa hpb hbox hka ck cn cv cs
        by_cases hk0 : k = 0
        · subst hk0
          have hadd : wordB ⟨0, n, x, s⟩ = numB x := rfl
          have HNUM := Lib.hid (num_any W.heap.size p v l x wa IA.out.wr IA.out.kept.size HX.out.1 HX.out.2 (by omega))
          rw [← hadd, ← HSN.out] at HNUM
          clear hadd
          go_wp2_with fail
          refine HNUM.out.mono ?_
          rintro e w4 ⟨rfl, ht⟩
          obtain ⟨v4, I4⟩ := IA.out.wrote ht
          have H4 := Lib.hid I4
          clear ht I4
          go_wp2
          go_meet
          case rel => exact ⟨rfl, _, H4.out⟩
        · by_cases hk1 : k = 1
          · subst hk1
            have q0 : ((1 : Int) == 0) = false := rfl
            have hadd : wordB ⟨1, n, x, s⟩ = numB (zigI n) := rfl
            have HNUM := Lib.hid (int_any W.heap.size p v l n wa IA.out.wr IA.out.kept.size HN.out.1 HN.out.2 (by omega))
            rw [← hadd, ← HSN.out] at HNUM
            clear hadd
            go_wp2_with fail
            refine HNUM.out.mono ?_
            rintro e w4 ⟨rfl, ht⟩
            obtain ⟨v4, I4⟩ := IA.out.wrote ht
            have H4 := Lib.hid I4
            clear ht I4
            go_wp2
            go_meet
            case rel => exact ⟨rfl, _, H4.out⟩
          · by_cases hk2 : k = 2
            · subst hk2
              have q0 : ((2 : Int) == 0) = false := rfl
              have q1 : ((2 : Int) == 1) = false := rfl
              have hadd : wordB ⟨2, n, x, s⟩ = fixB x := rfl
              have HNUM := Lib.hid (wfix_any W.heap.size p v l x wa IA.out.wr IA.out.kept.size (by omega))
              rw [← hadd, ← HSN.out] at HNUM
              clear hadd
              go_wp2_with fail
              refine HNUM.out.mono ?_
              rintro e w4 ⟨rfl, ht⟩
              obtain ⟨v4, I4⟩ := IA.out.wrote ht
              have H4 := Lib.hid I4
              clear ht I4
              go_wp2
              go_meet
              case rel => exact ⟨rfl, _, H4.out⟩
            · by_cases hk3 : k = 3
              · subst hk3
                have q0 : ((3 : Int) == 0) = false := rfl
                have q1 : ((3 : Int) == 1) = false := rfl
                have q2 : ((3 : Int) == 2) = false := rfl
                have hadd : wordB ⟨3, n, x, s⟩ = numB s.size ++ strB s := rfl
                have HNUM := Lib.hid (text_any W.heap.size p v l s wa IA.out.wr IA.out.kept.size (by omega) (by omega))
                rw [List.append_assoc, ← hadd, ← HSN.out] at HNUM
                clear hadd
                go_wp2_with fail
                refine HNUM.out.mono ?_
                rintro e w4 ⟨rfl, ht⟩
                obtain ⟨v4, I4⟩ := IA.out.wrote ht
                have H4 := Lib.hid I4
                clear ht I4
                go_wp2
                go_meet
                case rel => exact ⟨rfl, _, H4.out⟩
              · by_cases hk4 : k = 4
                · subst hk4
                  have q0 : ((4 : Int) == 0) = false := rfl
                  have q1 : ((4 : Int) == 1) = false := rfl
                  have q2 : ((4 : Int) == 2) = false := rfl
                  have q3 : ((4 : Int) == 3) = false := rfl
                  obtain ⟨wb, hwb⟩ : ∃ wb, wb = Lib.bytesWorld wa 5 s := ⟨_, rfl⟩
                  obtain ⟨gc, hgc⟩ : ∃ gc, gc = grownCap wa s.size 0 5 := ⟨_, rfl⟩
                  have hcv := strBytes_run (P := Try.prog) wa 9 29 s Try.underlying9 Try.underlying29 Try.underlying5
                  rw [← hwb, ← hgc] at hcv
                  have hkb : Kept (fun _ => False) wa wb := by rw [hwb]; exact strBytes_kept wa _ s
                  have hsb : Src Try.prog 1 29 (.slice (some ⟨wa.heap.size, 0, none⟩) s.size gc) (strB s).length (u8s (strB s)) wb := by rw [hwb]; exact strBytes_src wa _ _ s gc Try.underlying29
                  have IB := Lib.hid (IA.out.keptF hkb)
                  have hadd : wordB ⟨4, n, x, s⟩ = strB s := rfl
                  have HNUM := Lib.hid (raw_any W.heap.size p v l (strB s) _ wb IB.out.wr IB.out.kept.size hsb (by rw [strB_length]; omega))
                  rw [← hadd, ← HSN.out] at HNUM
                  clear hadd hwb hgc hkb hsb
                  go_wp2_with fail
                  refine HNUM.out.mono ?_
                  rintro e w4 ⟨rfl, ht⟩
                  obtain ⟨v4, I4⟩ := IB.out.wrote ht
                  have H4 := Lib.hid I4
                  clear ht I4
                  go_wp2
                  go_meet
                  case rel => exact ⟨rfl, _, H4.out⟩
                · have q0 : (k == 0) = false := by simp [hk0]
                  have q1 : (k == 1) = false := by simp [hk1]
                  have q2 : (k == 2) = false := by simp [hk2]
                  have q3 : (k == 3) = false := by simp [hk3]
                  have q4 : (k == 4) = false := by simp [hk4]
                  have hadd : wordB ⟨k, n, x, s⟩ = [] := by unfold wordB; simp only [if_neg hk0, if_neg hk1, if_neg hk2, if_neg hk3, if_neg hk4]
                  have HE : Hid (l2 = l) := by show _ = _; rw [HSN.out, hadd, List.append_nil]
                  clear hadd
                  go_wp2
                  go_meet
                  case rel => exact ⟨rfl, _, by rw [HE.out]; exact IA.out⟩
      case rest =>
        obtain ⟨rfl, v', I'⟩ := hcut
        have HI' := Lib.hid I'
        clear I'
        go_wp2
        go_roundg (rs.length - (i + 1))
        case measure => have := HD.out; omega
        case rel => exact ⟨i + 1, HD.out, rfl, by go_num, v', by rw [← HL2.out]; exact HI'.out⟩
    · obtain rfl : i = rs.length := by omega
      rw [List.take_length] at I
      have hbl := HWL.out rs.length (Nat.le_refl _)
      rw [List.take_length] at hbl
      have hby := HWB.out
      have hd0 : (wordsB rs).drop 0 = wordsB (rs.drop 0) := rfl
      obtain ⟨l, hll⟩ : ∃ l, l = wordsB rs := ⟨_, rfl⟩
      rw [← hll] at I hbl hby hd0
      have HLL := Lib.hid hll
      have HD0 := Lib.hid hd0
      have HBY := Lib.hid hby
      have HI := Lib.hid I
      have HBT := Lib.hid (wbytes_any W.heap.size p v l wr I.wr (by omega))
      have hblen : l.length ≤ 100000 := by omega
      clear I hll hd0 hby hd hil
      go_wp2_with fail
      refine HBT.out.mono ?_
      rintro e w3 ⟨vb, rfl, ho3, K3⟩
      obtain ⟨aob, cb, hsl, hob⟩ := SliceAt.ofOwn ho3
      have hln : (u8s l).length = l.length := by simp [u8s]
      have HNR := Lib.hid (newReader_any vb aob cb l w3 hsl (by omega) HBY.out)
      obtain rfl := hsl.val
      go_wp2_with fail
      refine HNR.out.mono ?_
      rintro e w4 ⟨rp, rv, rfl, HR4, K4⟩
      have Z4 : BZ W w4 rp rv l (.slice aob l.length cb) := ⟨HR4.less (Nat.le_trans HI.out.kept.size K3.size), ⟨_, wown_base (K4.owns ho3 (fun _ _ x => x)) HI.out.kept.size⟩, fun k e e2 => by
        have h1 := (ownsRow_lt ho3 e).1
        have h2 := (ownsRow_lt HR4.owns e2).2
        omega, (HI.out.kept.trans K3).trans K4⟩
      clear HBT HNR hsl ho3 HR4 K4 K3 hob hln
      obtain ⟨L, hL⟩ : ∃ L, L = l.length := ⟨_, rfl⟩
      rw [← hL] at Z4 ⊢
      have HL := Lib.hid hL
      have hLb : L ≤ 100000 := by omega
      clear hL
      go_wp2
      go_loopg [8] L (fun g s8 wr => ∃ j : Nat, j ≤ L ∧ g = L - j ∧ s8 = .int .i64 j ∧ BZ W wr rp rv l (.slice aob L cb))
      case atStart => exact ⟨0, Nat.zero_le _, rfl, rfl, Z4⟩
      case round =>
        obtain ⟨j, hj, rfl, rfl, Z⟩ := hrel
        clear Z4
        by_cases hdj : j < L
        · obtain ⟨xs, ho⟩ := Z.row
          rw [← HL.out] at ho
          obtain ⟨g, cap, he, _, _⟩ := ho.form (by omega)
          injection he with he1 he2 he3
          subst he1; subst he3
          have hxl : xs.length = L := by have := ho.1; simpa using this
          have hcell := ho.cellAt j (by omega)
          rw [List.getElem?_eq_getElem (by omega)] at hcell
          obtain ⟨y, hy⟩ : ∃ y, y = xs[j] := ⟨_, rfl⟩
          rw [← hy] at hcell
          have hfr := ho.frozenAt j
          have Z2 : Hid (BZ W (wr.setCell ⟨g, j, none⟩ (.int .u8 0)) rp rv l (.slice (some ⟨g, 0, none⟩) L cb)) := by
            have Z' := Z
            rw [HL.out] at Z' ⊢
            exact Z'.cleared
          have hj1 : (j : Int) < (L : Int) := by omega
          have hj0 : (0 : Int) ≤ (j : Int) := by omega
          have HDJ := Lib.hid hdj
          clear Z hy hxl ho hdj
          go_wp2
          go_roundg (L - (j + 1))
          case measure => have := HDJ.out; omega
          case rel => exact ⟨j + 1, HDJ.out, rfl, by go_num, Z2.out⟩
        · obtain rfl : j = L := by omega
          have R0 : BR W wr rp rv l 0 := ⟨Z.rd, Z.kept⟩
          clear Z hdj hj
          go_wp2
          go_loopg [9] rs.length (fun g s9 wr => ∃ i : Nat, i ≤ rs.length ∧ g = rs.length - i ∧ s9 = .int .i64 i ∧ ∃ t, l.drop t = wordsB (rs.drop i) ∧ BR W wr rp rv l t)
          case atStart => exact ⟨0, Nat.zero_le _, rfl, rfl, 0, HD0.out, R0⟩
          case round =>
            obtain ⟨i, hil, rfl, rfl, t, hdr, R⟩ := hrel
            clear R0
            by_cases hd : i < rs.length
            · obtain ⟨g, o, rfl, hrec⟩ := HR.out (by omega)
              have hi0 := hrec i rs[i] (List.getElem?_eq_getElem hd)
              have hi' := hi0.kept R.kept
              have hl40 := HL40.out rs[i] (List.getElem_mem hd)
              rw [wordsB_drop rs i hd] at hdr
              obtain ⟨r, hrr⟩ : ∃ r, r = rs[i] := ⟨_, rfl⟩
              rw [← hrr] at hi' hl40 hdr
              obtain ⟨k, n, x, s⟩ := r
              obtain ⟨ck, cn, cv, cs, hn, hx⟩ := hi'
              simp only at ck cn cv cs hn hx hl40
              have hdi : (i : Int) < (rs.length : Int) := by omega
              have hdi0 : (0 : Int) ≤ (i : Int) := by omega
              have HD := Lib.hid hd
              have HRD := Lib.hid R
              have HX := Lib.hid hx
              have HN := Lib.hid hn
              have HDR := Lib.hid hdr
              have HNX := Lib.hid (drop_more hdr)
              clear hrec hrr hi0 hd R hx hn hdr
              go_upto_block 7 with fail
              obtain ⟨pb, hpb⟩ : ∃ pb, pb = wr.heap.size := ⟨_, rfl⟩
              rw [← hpb]
              have HPB := Lib.hid hpb
              clear hpb
              go_cut [11] (fun s11 wc => s11 = .bool true ∧ ∃ t', l.drop t' = wordsB (rs.drop (i + 1)) ∧ BR W wc rp rv l t')
              case first =>
                obtain ⟨wa, hwa⟩ : ∃ wa, wa = wr.alloc (.cells #[.int .i64 k, .int .i64 n, .int .u64 x, .string s] 58) := ⟨_, rfl⟩
                have hpb := HPB.out
                have hbox : wa.heap[pb]? = some (.cells #[.int .i64 k, .int .i64 n, .int .u64 x, .string s] 58 (0, 0)) := by rw [hwa, hpb]; exact heap_alloc_new wr _
                have hka : Kept (fun _ => False) wr wa := by rw [hwa]; exact (Kept.refl _ wr).alloc _
                have RA := Lib.hid (HRD.out.keptF hka)
                have hpp : pb ≠ rp := by have := HRD.out.rd.lt; omega
                rw [← hwa]
                have kd : Kept (fun _ => False) wa wa.drew := (Kept.refl _ wa).drew
                have RAD := Lib.hid (RA.out.keptF kd)
                obtain ⟨c1, c2, c3⟩ := wbox_cells wa hbox
                have HLT := Lib.hid (RA.out.rd.taken)
                have HBX := Lib.hid hbox
                have cells : ∀ w4 : World, Kept (fun k => k = rp) wa.drew w4 → w4.cell? ⟨pb, 1, none⟩ = some (.int .i64 n) ∧ w4.cell? ⟨pb, 2, none⟩ = some (.int .u64 x) ∧ w4.cell? ⟨pb, 3, none⟩ = some (.string s) := fun w4 hk4 => wbox_cells w4 ((kd.mono (S' := fun k => k = rp) (fun _ _ x => x.elim)).trans hk4 |>.same HBX.out hpp)
                have CE := Lib.hid cells
                clear hwa hpb hbox hka ck cn cv cs cells
                by_cases hk0 : k = 0
                · subst hk0
                  have hadd : wordB ⟨0, n, x, s⟩ = numB x := rfl
                  have hlk := num_back l _ t x HX.out.1 HX.out.2 HDR.out
                  have HC := rnum_all W.heap.size rp rv l t 0 wa.drew RAD.out.rd (by omega)
                  unfold Read at HC
                  rw [hlk] at HC
                  have HNX2 := HNX.out
                  rw [hadd] at HNX2
                  simp only at HC
                  have HRC := Lib.hid HC
                  have HNXX := Lib.hid HNX2
                  clear hadd hlk HC HNX2
                  go_wp2
                  go_region_with (first
                    | (go_at_call 46; refine HRC.out.mono ?_; rintro e w6 ⟨rfl, hr6, k6⟩; obtain ⟨d1, d2, d3⟩ := CE.out w6 k6)
                    | fail)
                  all_goals
                    have FIN : ∀ q, BR W (w6.drewN q) rp rv l _ := fun q => (RAD.out.took hr6 k6).keptF ((Kept.refl _ w6).drewN q)
                    have FIN1 := RAD.out.took hr6 k6
                    clear hr6 k6
                    go_wp2
                    go_meet
                    case rel => exact ⟨by first | rfl | simp, _, HNXX.out, by first | exact FIN1 | exact FIN _⟩
                · by_cases hk1 : k = 1
                  · subst hk1
                    have q0 : ((1 : Int) == 0) = false := rfl
                    have hadd : wordB ⟨1, n, x, s⟩ = numB (zigI n) := rfl
                    have hzr := zigI_range n HN.out.1 HN.out.2
                    have hlk := num_back l _ t (zigI n) hzr.1 hzr.2 HDR.out
                    have HC := rint_all W.heap.size rp rv l t 0 wa.drew RAD.out.rd (by omega)
                    rw [hlk] at HC
                    simp only [zag_zig] at HC
                    have HNX2 := HNX.out
                    rw [hadd] at HNX2
                    have HRC := Lib.hid HC
                    have HNXX := Lib.hid HNX2
                    clear hadd hlk HC HNX2 hzr
                    go_wp2
                    go_region_with (first
                      | (go_at_call 53; refine HRC.out.mono ?_; rintro e w6 ⟨rfl, hr6, k6⟩; obtain ⟨d1, d2, d3⟩ := CE.out w6 k6)
                      | fail)
                    all_goals
                      have FIN : ∀ q, BR W (w6.drewN q) rp rv l _ := fun q => (RAD.out.took hr6 k6).keptF ((Kept.refl _ w6).drewN q)
                      have FIN1 := RAD.out.took hr6 k6
                      clear hr6 k6
                      go_wp2
                      go_meet
                      case rel => exact ⟨by first | rfl | simp, _, HNXX.out, by first | exact FIN1 | exact FIN _⟩
                  · by_cases hk2 : k = 2
                    · subst hk2
                      have q0 : ((2 : Int) == 0) = false := rfl
                      have q1 : ((2 : Int) == 1) = false := rfl
                      have hadd : wordB ⟨2, n, x, s⟩ = fixB x := rfl
                      have hlk := fix_back l _ t x HX.out.1 HX.out.2 HDR.out HLT.out
                      have HC := rfix_all W.heap.size rp rv l t 0 wa.drew RAD.out.rd (by omega)
                      rw [hlk] at HC
                      simp only at HC
                      have HNX2 := HNX.out
                      have h8 : (fixB x).length = 8 := by simp [fixB]
                      rw [hadd, h8] at HNX2
                      have HRC := Lib.hid HC
                      have HNXX := Lib.hid HNX2
                      clear hadd hlk HC HNX2 h8
                      go_wp2
                      go_region_with (first
                        | (go_at_call 55; refine HRC.out.mono ?_; rintro e w6 ⟨rfl, hr6, k6⟩; obtain ⟨d1, d2, d3⟩ := CE.out w6 k6)
                        | fail)
                      all_goals
                        have FIN : ∀ q, BR W (w6.drewN q) rp rv l _ := fun q => (RAD.out.took hr6 k6).keptF ((Kept.refl _ w6).drewN q)
                        have FIN1 := RAD.out.took hr6 k6
                        clear hr6 k6
                        go_wp2
                        go_meet
                        case rel => exact ⟨by first | rfl | simp, _, HNXX.out, by first | exact FIN1 | exact FIN _⟩
                    · by_cases hk3 : k = 3
                      · subst hk3
                        have q0 : ((3 : Int) == 0) = false := rfl
                        have q1 : ((3 : Int) == 1) = false := rfl
                        have q2 : ((3 : Int) == 2) = false := rfl
                        have hadd : wordB ⟨3, n, x, s⟩ = numB s.size ++ strB s := rfl
                        have hlk := text_back l _ t s hl40 HDR.out HLT.out
                        have HC := rtext_all W.heap.size rp rv l t 0 300 wa.drew RAD.out.rd (by omega) (by omega) (by omega)
                        rw [hlk] at HC
                        simp only [strOf_strB] at HC
                        have HNX2 := HNX.out
                        rw [hadd] at HNX2
                        have HRC := Lib.hid HC
                        have HNXX := Lib.hid HNX2
                        clear hadd hlk HC HNX2
                        go_wp2
                        go_region_with (first
                          | (go_at_call 56; refine HRC.out.mono ?_; rintro e w6 ⟨rfl, hr6, k6⟩; obtain ⟨d1, d2, d3⟩ := CE.out w6 k6)
                          | fail)
                        all_goals
                          have FIN : ∀ q, BR W (w6.drewN q) rp rv l _ := fun q => (RAD.out.took hr6 k6).keptF ((Kept.refl _ w6).drewN q)
                          have FIN1 := RAD.out.took hr6 k6
                          clear hr6 k6
                          go_wp2
                          go_meet
                          case rel => exact ⟨by first | rfl | simp, _, HNXX.out, by first | exact FIN1 | exact FIN _⟩
                      · by_cases hk4 : k = 4
                        · subst hk4
                          have q0 : ((4 : Int) == 0) = false := rfl
                          have q1 : ((4 : Int) == 1) = false := rfl
                          have q2 : ((4 : Int) == 2) = false := rfl
                          have q3 : ((4 : Int) == 3) = false := rfl
                          have hadd : wordB ⟨4, n, x, s⟩ = strB s := rfl
                          have hlk := next_back l (strB s) _ t s.size (by rw [strB_length]) HDR.out HLT.out
                          have HC : Calls Try.prog 57 #[.pointer (some ⟨rp, 0, none⟩), .int .i64 (s.size : Int)] wa.drew fun e' w' => ∃ vb, e' = .returned vb ∧ (∀ w'', Kept (fun _ => False) w' w'' → (convert 29 9 vb).run Try.prog w'' = .ok (.string s) w'') ∧ RdAt 88 5 w' W.heap.size rp rv l (t + (strB s).length) 0 ∧ Kept (fun k => k = rp) wa.drew w' := by
                            refine (rraw_all W.heap.size rp rv l t 0 s.size wa.drew RAD.out.rd (by omega)).mono ?_
                            rw [hlk]
                            rintro e' w' ⟨vb, rfl, ho, h1, h2⟩
                            refine ⟨vb, rfl, fun w'' hk2 => ?_, h1, h2⟩
                            have := run_str_own (P := Try.prog) (hk2.owns ho (fun _ _ x => x)) 29 5 9 Try.underlying29 Try.underlying5 Try.underlying9
                            rw [strOf_strB] at this; exact this
                          have HNX2 := HNX.out
                          rw [hadd] at HNX2
                          have HRC := Lib.hid HC
                          have HNXX := Lib.hid HNX2
                          clear hadd hlk HC HNX2
                          go_wp2
                          go_region_with (first
                            | (go_at_call 57; refine HRC.out.mono ?_; rintro e w6 ⟨vb, rfl, hcv, hr6, k6⟩; obtain ⟨d1, d2, d3⟩ := CE.out w6 k6; have k66 := Kept.refl (fun _ => False) w6; have k6d := k66.drew)
                            | fail)
                          all_goals
                            have FIN : ∀ q, BR W (w6.drewN q) rp rv l (t + (strB s).length) := fun q => (RAD.out.took hr6 k6).keptF ((Kept.refl _ w6).drewN q)
                            clear hr6 k6
                            go_wp2
                            go_meet
                            case rel => exact ⟨by first | rfl | simp, _, HNXX.out, by first | exact FIN _ | exact FIN 0 | exact FIN 1⟩
                        · have q0 : (k == 0) = false := by simp [hk0]
                          have q1 : (k == 1) = false := by simp [hk1]
                          have q2 : (k == 2) = false := by simp [hk2]
                          have q3 : (k == 3) = false := by simp [hk3]
                          have q4 : (k == 4) = false := by simp [hk4]
                          have hadd : wordB ⟨k, n, x, s⟩ = [] := by unfold wordB; simp only [if_neg hk0, if_neg hk1, if_neg hk2, if_neg hk3, if_neg hk4]
                          have HNX2 := HNX.out
                          rw [hadd] at HNX2
                          have HNXX := Lib.hid HNX2
                          clear hadd HNX2
                          go_wp2
                          go_meet
                          case rel => exact ⟨rfl, _, HNXX.out, RA.out⟩
              case rest =>
                obtain ⟨rfl, t', hdr', R'⟩ := hcut
                have HR' := Lib.hid R'
                have HDR' := Lib.hid hdr'
                clear R' hdr'
                go_wp2
                go_roundg (rs.length - (i + 1))
                case measure => have := HD.out; omega
                case rel => exact ⟨i + 1, HD.out, rfl, by go_num, t', HDR'.out, HR'.out⟩
            · obtain rfl : i = rs.length := by omega
              rw [List.drop_length] at hdr
              have htl : t = l.length := by
                have h1 := congrArg List.length hdr
                rw [List.length_drop] at h1
                have h2 := R.rd.taken
                have h3 : (wordsB []).length = 0 := rfl
                omega
              have HDN := Lib.hid (done_ok W.heap.size rp rv l t wr R.rd (by omega))
              rw [if_pos htl] at HDN
              have HRK := Lib.hid R.kept
              clear R hdr hd htl
              go_wp2_with (go_at_call 51; refine HDN.out.mono ?_; rintro e w' ⟨rfl, q, rfl⟩)
              go_ret
              exact ⟨rfl, HRK.out.drewN _⟩
end Go.Proofs.Ytanhdjdojeoodaa
