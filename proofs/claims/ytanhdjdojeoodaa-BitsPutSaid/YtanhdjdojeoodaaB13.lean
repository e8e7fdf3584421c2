/- Layer 1: the walk of 'BitsTake'. -/
import Derived.Test.YtanhdjdojeoodaaB12
namespace Go.Proofs.Ytanhdjdojeoodaa
open Go.RowKit
attribute [local go_sem ↓] Go.wp_at_zero Go.wp_at_succ

theorem openE_full (l : List Nat) : openE l (8 * (l.length : Int)) = 0 := by
  unfold openE
  rw [if_neg (by omega), if_neg (by omega), if_neg (by omega)]
  have e : (8 * (l.length : Int)).toNat = 8 * l.length := by omega
  rw [e, List.drop_eq_nil_of_le (by simp)]; rfl

theorem run_cut {P : Program} {t E : TypeId} {i : TypeInfo} (ht : P.underlying t = some (.slice E)) (hi : P.info? E = some i) (hs : i.size = 1) (a : Option Addr) (len cap lo hi' : Nat) (hlo : lo ≤ hi') (hhi : hi' ≤ cap) (w : World) :
    (Instr.slice t (.slice a len cap) (some (.int .i64 (lo : Int))) (some (.int .i64 (hi' : Int))) none).run P w = .ok (.slice (if cap = lo then a else a.map (·.add lo)) (hi' - lo) (cap - lo)) w := by
  have he : P.elem t = E := by simp [Program.elem, ht]
  rw [run_slice_lh w t a len cap (by rw [he]; exact ht) .i64 .i64 lo hi' (by omega) (by omega) (by omega), he]
  simp [sizeOf, typeInfo, hi, hs, sliced]
theorem run_cutAt {P : Program} {t E : TypeId} {i : TypeInfo} (ht : P.underlying t = some (.slice E)) (hi : P.info? E = some i) (hs : i.size = 1) (a : Option Addr) (len cap lo hi' : Nat) (hlo : lo ≤ hi') (hhi : hi' ≤ cap) (w : World) :
    (Instr.sliceAt t (.slice a len cap) (some (.int .i64 (lo : Int))) (some (.int .i64 (hi' : Int))) none).run P w = .ok (.slice (if cap = lo then a else a.map (·.add lo)) (hi' - lo) (cap - lo)) w := by
  have he : P.elem t = E := by simp [Program.elem, ht]
  rw [run_sliceAt_slice w t _ _ _ _ (by rw [he]; exact ht)]
  exact run_cut ht hi hs a len cap lo hi' hlo hhi w
theorem add_add (a : Addr) (i j : Nat) : (a.add i).add j = a.add (i + j) := by
  unfold Addr.add
  by_cases hi : i = 0 <;> by_cases hj : j = 0 <;> simp [hi, hj, Nat.add_assoc]
theorem SlAt.cut {w : World} {ao : Option Addr} {n c : Nat} {xs : List Value} (h : SlAt w (.slice ao n c) xs) {lo hi : Nat} (h1 : lo ≤ hi) (h2 : hi ≤ n) (h3 : n ≤ c) :
    SlAt w (.slice (if c = lo then ao else ao.map (·.add lo)) (hi - lo) (c - lo)) ((xs.drop lo).take (hi - lo)) := by
  have hl := h.len
  obtain ⟨ao', c', e, hn, hc⟩ := h.val
  injection e with e1 e2 e3
  subst e1; subst e3
  have hlen : ((xs.drop lo).take (hi - lo)).length = hi - lo := by rw [List.length_take, List.length_drop]; omega
  refine ⟨_, _, by rw [hlen], ?_, ?_⟩
  · intro h0
    have hz : ao = none ∨ c = lo := by
      by_cases hcl : c = lo
      · exact .inr hcl
      · rw [if_neg hcl] at h0
        cases ao with
        | none => exact .inl rfl
        | some a => cases h0
    apply List.eq_nil_of_length_eq_zero
    rw [hlen]
    rcases hz with h0 | h0
    · have := hn h0; rw [this] at hl; simp at hl; omega
    · omega
  · intro a ha j u hu
    have hj : j < hi - lo := by have := (List.getElem?_eq_some_iff.1 hu).1; omega
    rw [if_neg (by omega)] at ha
    cases ao with
    | none => cases ha
    | some b =>
      cases ha
      rw [add_add]
      rw [List.getElem?_take, if_pos hj, List.getElem?_drop] at hu
      exact hc b rfl _ u hu
theorem own_cap {w : World} {B : Nat} {E : TypeId} {ao : Option Addr} {s n m c : Nat} {xs : List Value} (h : w.ownsRow B E s (.slice ao n c) m xs) : m ≤ c := by
  rcases h.2 with ⟨e, h0⟩ | ⟨g, cap, cur, e, _, _, hm, _⟩
  · omega
  · injection e with e1 e2 e3; omega

/-- What holds while bits are taken. -/
structure TakeInv (W w : World) (rp : Nat) (rv : Value) (bs : List Bool) (t : Nat) (av : Value) : Prop where
  rd : BrAt w W.heap.size rp rv bs t
  own : w.ownsRow W.heap.size 3 1 av bs.length (ints bs)
  kept : Kept (fun _ => False) W w
theorem TakeInv.taken {W w w1 : World} {rp t t2 : Nat} {rv av : Value} {bs : List Bool} (h : TakeInv W w rp rv bs t av) (hr : BrAt w1 W.heap.size rp rv bs t2) (hk : Kept (fun k => k = rp) w w1) : TakeInv W w1 rp rv bs t2 av :=
  ⟨hr, hk.owns h.own (fun k e hS => own_ne_blk h.own h.rd.box (by decide) (hS ▸ e)), h.kept.after hk (fun k e => by subst e; exact h.rd.base)⟩
theorem TakeInv.keptF {W w w1 : World} {rp t : Nat} {rv av : Value} {bs : List Bool} (h : TakeInv W w rp rv bs t av) (hk : Kept (fun _ => False) w w1) : TakeInv W w1 rp rv bs t av :=
  ⟨h.rd.keptF hk, hk.owns h.own (fun _ _ x => x), h.kept.trans hk⟩

/-- What holds while the bytes that were handed in are turned. -/
structure TurnInv (W w : World) (rp : Nat) (rv : Value) (bs : List Bool) (v : Value) (n : Nat) : Prop where
  rd : BrAt w W.heap.size rp rv bs 0
  row : ∃ l : List Int, l.length = n ∧ w.ownsRow W.heap.size 5 1 v n (l.map (Value.int .u8))
  apart : ∀ k, v.ownBlock = some k → rv.ownBlock ≠ some k
  kept : Kept (fun _ => False) W w
theorem TurnInv.set {W w : World} {rp g n cap j : Nat} {rv : Value} {bs : List Bool} {y : Int} (h : TurnInv W w rp rv bs (.slice (some ⟨g, 0, none⟩) n cap) n) : TurnInv W (w.setCell ⟨g, j, none⟩ (.int .u8 y)) rp rv bs (.slice (some ⟨g, 0, none⟩) n cap) n := by
  obtain ⟨l, hl, ho⟩ := h.row
  have hk : Kept (fun k => k = g) w (w.setCell ⟨g, j, none⟩ (.int .u8 y)) := (Kept.refl (fun k => k = g) w).setCell (fun _ => rfl) _
  have hgr : g ≠ rp := fun e => own_ne_blk ho h.rd.box (by decide) (by rw [e]; rfl)
  refine ⟨h.rd.kept hk (fun e => hgr e.symm) (fun k e hS => h.apart g rfl (hS ▸ e)), ⟨l.set j y, by rw [List.length_set]; exact hl, ?_⟩, h.apart, h.kept.after hk (fun k e => by subst e; exact (ownsRow_lt ho rfl).2)⟩
  rw [List.map_set]
  exact owns_set ho j (.int .u8 y)

set_option maxHeartbeats 2000000 in
set_option maxRecDepth 100000 in
theorem bitsTake_walk0 (ao so : Option Addr) (ca cs : Nat) (l : List Nat) (ss : List Int) (W : World) (hv : SlAt W (.slice ao l.length ca) (bys l)) (hs : SlAt W (.slice so ss.length cs) (i64s ss))
    (hl : l.length ≤ 200) (hls : ss.length ≤ 100) (hx : ∀ x ∈ l, x < 256) (hz : ∀ z ∈ ss, -9223372036854775808 ≤ z ∧ z ≤ 9223372036854775807) :
    Calls Try.prog 5 #[.slice ao l.length ca, .slice so ss.length cs] W fun e w' => e = .returned (.bool true) ∧ Kept (fun _ => False) W w' := by
  obtain ⟨i0, hi, hz0, hz1, hz2⟩ := info_parts Try.infoU8
  obtain ⟨iI, hiI, _, hzI1, _⟩ := info_parts Try.infoInt
  have HV := Lib.hid hv
  have HS := Lib.hid hs
  have HA := Lib.hid (awake1_any W)
  have HX := Lib.hid hx
  have HZ := Lib.hid hz
  clear hv hs hx hz
  have h1 : ¬ (200 : Int) < (l.length : Int) := by omega
  have h2 : ¬ (100 : Int) < (ss.length : Int) := by omega
  go_enter Try.func5, Try.ntmps5
  go_wp2_with fail
  refine HA.out.mono ?_
  rintro e w1 ⟨rfl, K1⟩
  have B1 := K1.size
  have hsrc : Src Try.prog 1 29 (.slice ao l.length ca) (bys l).length (bys l) (w1.alloc (.cells #[] 5)) := (HV.out.kept (K1.alloc _) (fun _ _ x => x)).src Try.underlying29 (bys_one l)
  rw [bys_length] at hsrc
  have hown0 : (w1.alloc (.cells #[] 5)).ownsRow W.heap.size 5 1 (.slice (some ⟨w1.heap.size, 0, none⟩) 0 0) 0 [] :=
      ⟨rfl, .inr ⟨w1.heap.size, 0, #[], rfl, B1, heap_alloc_new w1 _, Nat.le_refl _, by unfold maxLen; omega, rfl, rfl⟩⟩
  go_wp2_with (at_builtin; refine wpList_append_src _ rfl (.tmp 28) (.tmp 29) 29 29 rfl W.heap.size 5 i0 (.int .u8 0) 1 1 Try.underlying29 hi hz0 hz1 hz2 rfl (.slice (some ⟨w1.heap.size, 0, none⟩) 0 0) 0 [] rfl hown0 (.slice ao l.length ca) l.length (bys l) rfl hsrc ?c1 ?c2 ?c3 ?_)
  case c1 => unfold maxLen; omega
  case c2 => omega
  case c3 => simp; omega
  intro vo w2 hown hg _ hat
  have K2 : Kept (fun _ => False) W w2 := own_kept (K1.alloc _) (Kept.refl _ _) hown0 hg
  clear hg hat hsrc hown0
  obtain ⟨ap, cp, rfl⟩ := ownsRow_slice hown
  have hvo := SlAt.ofOwn hown
  have HO := Lib.hid hown
  clear hown
  go_wp2_with fail
  have hop := bopen_yes _ l (8 * l.length) w2 hvo (by omega) HX.out (openE_full l)
  rw [List.take_of_length_le (by simp)] at hop
  refine hop.mono ?_
  rintro e w3 ⟨rp, rv, rfl, HR, K3⟩
  have T0 : TurnInv W w3 rp rv (bitsOf l) (.slice ap l.length cp) l.length :=
    ⟨HR.less K2.size, ⟨l.map fun (n : Nat) => (n : Int), by simp, by rw [List.map_map]; exact K3.owns HO.out (fun _ _ x => x)⟩, fun k e e' => by
      have h3 : w2.heap.size ≤ k := (ownsRow_lt HR.owns e').2
      have h4 : k < w2.heap.size := (ownsRow_lt HO.out e).1
      omega, K2.trans K3⟩
  clear HR K3 HO hvo hop K2
  go_wp2
  go_loopg [8] l.length (fun g s8 wr => ∃ i : Nat, i ≤ l.length ∧ g = l.length - i ∧ s8 = .int .i64 i ∧ TurnInv W wr rp rv (bitsOf l) (.slice ap l.length cp) l.length)
  case atStart => exact ⟨0, Nat.zero_le _, rfl, rfl, T0⟩
  case round =>
    obtain ⟨i, hil, rfl, rfl, T⟩ := hrel
    clear T0
    by_cases hd : i < l.length
    · obtain ⟨lb, hlb, hob⟩ := T.row
      obtain ⟨gb, rfl⟩ : ∃ gb, ap = some ⟨gb, 0, none⟩ := by
        rcases hob.2 with ⟨e, _⟩ | ⟨g, cap, cur, e, _⟩
        · injection e with e1 e2 e3; omega
        · injection e with e1 e2 e3; exact ⟨g, e1⟩
      obtain ⟨g', o', e', hcell⟩ := (SlAt.ofOwn hob).elem (i := i) (u := .int .u8 (lb[i]'(by omega))) (by rw [List.getElem?_map, List.getElem?_eq_getElem (by omega)]; rfl)
      cases e'
      have hfr : wr.frozen? ⟨gb, i, none⟩ = false := by
        obtain ⟨cur', hcur'⟩ := ownsRow_block hob (k := gb) rfl
        simp [World.frozen?, hcur']
      rw [Nat.zero_add] at hcell
      obtain ⟨y, hy⟩ : ∃ y, y = lb[i]'(by omega) := ⟨_, rfl⟩
      rw [← hy] at hcell
      have J3 := Lib.hid fun u => (T.set (j := i) (y := u))
      have HD := Lib.hid hd
      have hdi : (i : Int) < (l.length : Int) := by omega
      have hdi0 : (0 : Int) ≤ (i : Int) := by omega
      clear hob hlb hd hy T
      go_wp2
      go_roundg (l.length - (i + 1))
      case measure => have := HD.out; omega
      case rel => exact ⟨i + 1, HD.out, rfl, by go_num, J3.out _⟩
    · obtain rfl : i = l.length := by omega
      have hvr := HV.out.kept T.kept (fun _ _ x => x)
      have HB := Lib.hid (refBits_any _ l wr hvr (by omega) HX.out)
      have HT := Lib.hid T
      clear hvr hd T
      go_wp2_with fail
      refine HB.out.mono ?_
      rintro e w5 ⟨av, rfl, hoa, K5⟩
      obtain ⟨bs, hbs⟩ : ∃ bs, bs = bitsOf l := ⟨_, rfl⟩
      have hbl : bs.length = 8 * l.length := by rw [hbs, bitsOf_length]
      rw [← hbs, ints_length] at hoa
      have I0 : TakeInv W w5 rp rv bs 0 av := ⟨by rw [hbs]; exact HT.out.rd.keptF K5, own_base hoa HT.out.kept.size, HT.out.kept.trans K5⟩
      obtain ⟨aa, ca2, rfl⟩ := ownsRow_slice hoa
      have hbl2 : (bs.length : Int) ≤ 1600 := by omega
      clear hoa K5 hbs hbl
      go_wp2
      go_loopg [10, 11] ss.length (fun g s10 s11 wr => ∃ i t : Nat, i ≤ ss.length ∧ g = ss.length - i ∧ s11 = .int .i64 i ∧ s10 = .int .i64 t ∧ t ≤ bs.length ∧ TakeInv W wr rp rv bs t (.slice aa bs.length ca2))
      case atStart => exact ⟨0, 0, Nat.zero_le _, rfl, rfl, rfl, Nat.zero_le _, I0⟩
      case round =>
        obtain ⟨i, t, hil, rfl, rfl, rfl, htb, I⟩ := hrel
        clear I0
        by_cases hd : i < ss.length
        · have hsr := HS.out.kept I.kept (fun _ _ x => x)
          obtain ⟨z, hze⟩ : ∃ z, z = ss[i] := ⟨_, rfl⟩
          obtain ⟨gs, os, rfl, hcs⟩ := hsr.elem (i := i) (u := .int .i64 z) (by rw [i64s, List.getElem?_map, List.getElem?_eq_getElem hd, hze]; rfl)
          obtain ⟨z0, z1⟩ := HZ.out z (by rw [hze]; exact List.getElem_mem hd)
          have HD := Lib.hid hd
          have hdi : (i : Int) < (ss.length : Int) := by omega
          have hdi0 : (0 : Int) ≤ (i : Int) := by omega
          obtain ⟨L, hL⟩ : ∃ L, L = bs.length - t := ⟨_, rfl⟩
          have l1 : IntKind.i64.wrap ((bs.length : Int) - (t : Int)) = (L : Int) := by rw [IntWalk.i64_in _ ⟨by omega, by omega⟩]; omega
          have l2 : (bs.length : Int) - (t : Int) = (L : Int) := by omega
          have HLL := Lib.hid hL
          have HI := Lib.hid I
          clear hsr hze hd hL I
          by_cases hz1 : z < -100
          · obtain ⟨m, hm⟩ : ∃ m, m = -100 - z := ⟨_, rfl⟩
            have m1 : IntKind.i64.wrap (-100 - z) = m := by rw [IntWalk.i64_in _ ⟨by omega, by omega⟩]; omega
            have m2 : -100 - z = m := hm.symm
            have hm0 : 0 ≤ m := by omega
            have hmb : m ≤ 9223372036854775807 := by omega
            clear hm
            by_cases hm1 : m ≤ (L : Int)
            · obtain ⟨n, rfl⟩ : ∃ n : Nat, m = n := ⟨m.toNat, by omega⟩
              obtain ⟨e, he⟩ : ∃ e, e = t + n := ⟨_, rfl⟩
              have e1 : (t : Int) + (n : Int) = (e : Int) := by omega
              have e2 : IntKind.i64.wrap (e : Int) = (e : Int) := IntWalk.i64_in _ ⟨by omega, by have := HLL.out; omega⟩
              have heb : e ≤ bs.length := by have := HLL.out; omega

              have hSk := bskip_yes W.heap.size rp rv bs t n wr HI.out.rd (by omega) (by have := HLL.out; omega)
              rw [← he] at hSk
              have HSK := Lib.hid hSk
              clear hSk he

              go_wp2_with fail
              refine HSK.out.mono ?_
              rintro e' w6 ⟨rfl, HR6, K6⟩
              have I6 := HI.out.taken HR6 K6
              clear HR6 K6

              obtain ⟨L2, hL2⟩ : ∃ L2, L2 = bs.length - e := ⟨_, rfl⟩
              have htb2 : e ≤ bs.length := by first | exact htb | exact heb
              have HAt := bat_any W.heap.size rp rv bs e w6 I6.rd
              have HLf := bleft_any W.heap.size rp rv bs e w6 I6.rd (by omega)
              rw [← hL2] at HLf
              have k1 : IntKind.i64.wrap ((bs.length : Int) - (e : Int)) = (L2 : Int) := by rw [IntWalk.i64_in _ ⟨by omega, by omega⟩]; omega
              have k2 : (bs.length : Int) - (e : Int) = (L2 : Int) := by omega
              have HAT := Lib.hid HAt
              have HLF := Lib.hid HLf
              have I66 := Lib.hid I6
              have HTB2 := Lib.hid htb2
              clear HAt HLf hL2 I6 htb2
              go_wp2_with (first | (go_at_call 26; refine HAT.out.mono ?_; rintro e w' ⟨rfl, rfl⟩) | (go_at_call 25; refine HLF.out.mono ?_; rintro e w' ⟨rfl, q, rfl⟩))
              go_roundg (ss.length - (i + 1))
              case measure => have := HD.out; omega
              case rel => exact ⟨i + 1, e, HD.out, rfl, by go_num, rfl, HTB2.out, I66.out.keptF ((Kept.refl _ _).drewN _)⟩
            · have hSk := bskip_no W.heap.size rp rv bs t m wr HI.out.rd (by omega) (.inr (by have := HLL.out; omega))
              have HSK := Lib.hid hSk
              clear hSk
              go_wp2_with fail
              refine HSK.out.mono ?_
              rintro e' w6 ⟨rfl, q6, hw6⟩
              have I6 := HI.out.keptF (w1 := w6) (by rw [hw6]; exact (Kept.refl _ wr).drewN q6)
              clear hw6

              obtain ⟨L2, hL2⟩ : ∃ L2, L2 = bs.length - t := ⟨_, rfl⟩
              have htb2 : t ≤ bs.length := by first | exact htb | exact heb
              have HAt := bat_any W.heap.size rp rv bs t w6 I6.rd
              have HLf := bleft_any W.heap.size rp rv bs t w6 I6.rd (by omega)
              rw [← hL2] at HLf
              have k1 : IntKind.i64.wrap ((bs.length : Int) - (t : Int)) = (L2 : Int) := by rw [IntWalk.i64_in _ ⟨by omega, by omega⟩]; omega
              have k2 : (bs.length : Int) - (t : Int) = (L2 : Int) := by omega
              have HAT := Lib.hid HAt
              have HLF := Lib.hid HLf
              have I66 := Lib.hid I6
              have HTB2 := Lib.hid htb2
              clear HAt HLf hL2 I6 htb2
              go_wp2_with (first | (go_at_call 26; refine HAT.out.mono ?_; rintro e w' ⟨rfl, rfl⟩) | (go_at_call 25; refine HLF.out.mono ?_; rintro e w' ⟨rfl, q, rfl⟩))
              go_roundg (ss.length - (i + 1))
              case measure => have := HD.out; omega
              case rel => exact ⟨i + 1, t, HD.out, rfl, by go_num, rfl, HTB2.out, I66.out.keptF ((Kept.refl _ _).drewN _)⟩
          · by_cases hz2 : 100 < z
            · obtain ⟨m, hm⟩ : ∃ m, m = z - 100 := ⟨_, rfl⟩
              have m1 : IntKind.i64.wrap (z - 100) = m := by rw [IntWalk.i64_in _ ⟨by omega, by omega⟩]; omega
              have m2 : z - 100 = m := hm.symm
              have hmb : m ≤ 9223372036854775807 := by omega
              have hmb0 : 0 < m := by omega
              clear hm
              by_cases g1 : m < 0
              · exact absurd g1 (by omega)
              · by_cases g2 : 64 < m
                · have hTk := blook_no W.heap.size rp rv bs t m wr HI.out.rd (by omega) (by have := HLL.out; omega)
                  have HTK := Lib.hid hTk
                  clear hTk

                  go_wp2_with fail
                  refine HTK.out.mono ?_
                  rintro e' w6 ⟨rfl, q6, hw6⟩
                  have I6 := HI.out.keptF (w1 := w6) (by rw [hw6]; exact (Kept.refl _ wr).drewN q6)
                  clear hw6

                  obtain ⟨L2, hL2⟩ : ∃ L2, L2 = bs.length - t := ⟨_, rfl⟩
                  have htb2 : t ≤ bs.length := by first | exact htb | exact heb
                  have HAt := bat_any W.heap.size rp rv bs t w6 I6.rd
                  have HLf := bleft_any W.heap.size rp rv bs t w6 I6.rd (by omega)
                  rw [← hL2] at HLf
                  have k1 : IntKind.i64.wrap ((bs.length : Int) - (t : Int)) = (L2 : Int) := by rw [IntWalk.i64_in _ ⟨by omega, by omega⟩]; omega
                  have k2 : (bs.length : Int) - (t : Int) = (L2 : Int) := by omega
                  have HAT := Lib.hid HAt
                  have HLF := Lib.hid HLf
                  have I66 := Lib.hid I6
                  have HTB2 := Lib.hid htb2
                  clear HAt HLf hL2 I6 htb2
                  go_wp2_with (first | (go_at_call 26; refine HAT.out.mono ?_; rintro e w' ⟨rfl, rfl⟩) | (go_at_call 25; refine HLF.out.mono ?_; rintro e w' ⟨rfl, q, rfl⟩))
                  go_roundg (ss.length - (i + 1))
                  case measure => have := HD.out; omega
                  case rel => exact ⟨i + 1, t, HD.out, rfl, by go_num, rfl, HTB2.out, I66.out.keptF ((Kept.refl _ _).drewN _)⟩
                · by_cases g3 : (L : Int) < m
                  · have hTk := blook_no W.heap.size rp rv bs t m wr HI.out.rd (by omega) (by have := HLL.out; omega)
                    have HTK := Lib.hid hTk
                    clear hTk

                    go_wp2_with fail
                    refine HTK.out.mono ?_
                    rintro e' w6 ⟨rfl, q6, hw6⟩
                    have I6 := HI.out.keptF (w1 := w6) (by rw [hw6]; exact (Kept.refl _ wr).drewN q6)
                    clear hw6

                    obtain ⟨L2, hL2⟩ : ∃ L2, L2 = bs.length - t := ⟨_, rfl⟩
                    have htb2 : t ≤ bs.length := by first | exact htb | exact heb
                    have HAt := bat_any W.heap.size rp rv bs t w6 I6.rd
                    have HLf := bleft_any W.heap.size rp rv bs t w6 I6.rd (by omega)
                    rw [← hL2] at HLf
                    have k1 : IntKind.i64.wrap ((bs.length : Int) - (t : Int)) = (L2 : Int) := by rw [IntWalk.i64_in _ ⟨by omega, by omega⟩]; omega
                    have k2 : (bs.length : Int) - (t : Int) = (L2 : Int) := by omega
                    have HAT := Lib.hid HAt
                    have HLF := Lib.hid HLf
                    have I66 := Lib.hid I6
                    have HTB2 := Lib.hid htb2
                    clear HAt HLf hL2 I6 htb2
                    go_wp2_with (first | (go_at_call 26; refine HAT.out.mono ?_; rintro e w' ⟨rfl, rfl⟩) | (go_at_call 25; refine HLF.out.mono ?_; rintro e w' ⟨rfl, q, rfl⟩))
                    go_roundg (ss.length - (i + 1))
                    case measure => have := HD.out; omega
                    case rel => exact ⟨i + 1, t, HD.out, rfl, by go_num, rfl, HTB2.out, I66.out.keptF ((Kept.refl _ _).drewN _)⟩
                  · obtain ⟨n, rfl⟩ : ∃ n : Nat, m = n := ⟨m.toNat, by omega⟩
                    obtain ⟨e, he⟩ : ∃ e, e = t + n := ⟨_, rfl⟩
                    have e1 : (t : Int) + (n : Int) = (e : Int) := by omega
                    have e2 : IntKind.i64.wrap (e : Int) = (e : Int) := IntWalk.i64_in _ ⟨by omega, by have := HLL.out; omega⟩
                    have heb : e ≤ bs.length := by have := HLL.out; omega

                    have hcap := own_cap HI.out.own
                    have hcut : ∀ w, SlAt w (.slice aa bs.length ca2) (ints bs) → SlAt w (.slice (if ca2 = t then aa else aa.map (·.add t)) (e - t) (ca2 - t)) ((ints bs).drop t |>.take (e - t)) := fun w h => h.cut (by omega) heb hcap
                    obtain ⟨A2, hA2⟩ : ∃ A2, A2 = (if ca2 = t then aa else aa.map (·.add t)) := ⟨_, rfl⟩
                    obtain ⟨n2, hn2⟩ : ∃ n2, n2 = e - t := ⟨_, rfl⟩
                    obtain ⟨c2, hc2⟩ : ∃ c2, c2 = ca2 - t := ⟨_, rfl⟩
                    have s1 := fun w => run_cut (P := Try.prog) Try.underlying27 hiI hzI1 aa bs.length ca2 t e (by omega) (by omega) w
                    have s2 := fun w => run_cutAt (P := Try.prog) Try.underlying27 hiI hzI1 aa bs.length ca2 t e (by omega) (by omega) w
                    rw [← hA2, ← hn2, ← hc2] at s1 s2 hcut
                    obtain ⟨V, hV⟩ : ∃ V, V = numB ((bs.drop t).take n) := ⟨_, rfl⟩
                    have hnum : ∀ w, TakeInv W w rp rv bs e (.slice aa bs.length ca2) ∨ TakeInv W w rp rv bs t (.slice aa bs.length ca2) → Calls Try.prog 30 #[.slice A2 n2 c2] w fun e w' => e = .returned (.int .u64 (V : Int)) ∧ w = w' := fun w h => by
                      have h1 : SlAt w (.slice aa bs.length ca2) (ints bs) := by
                        rcases h with h | h
                        · exact SlAt.ofOwn h.own
                        · exact SlAt.ofOwn h.own
                      have h2 := hcut w h1
                      have h3 : ((ints bs).drop t |>.take n2) = ints ((bs.drop t).take n2) := by unfold ints; rw [List.map_take, List.map_drop]
                      rw [h3] at h2
                      have h4 : n2 = n := by omega
                      have h5 := refNumber_any _ _ w h2 (by rw [List.length_take]; omega)
                      rw [hV, ← h4]; exact h5
                    have HNUM := Lib.hid hnum
                    clear hnum hcut hcap

                    have hTk := blook_yes W.heap.size rp rv bs t n wr HI.out.rd (by omega) (by omega) (by have := HLL.out; omega)
                    rw [← hV] at hTk
                    have HTK := Lib.hid hTk
                    clear hTk he hA2 hn2 hc2 hV heb

                    go_wp2_with fail
                    refine HTK.out.mono ?_
                    rintro e' w6 ⟨rfl, q6, hw6⟩
                    have I6 := HI.out.keptF (w1 := w6) (by rw [hw6]; exact (Kept.refl _ wr).drewN q6)
                    have HNU := Lib.hid (HNUM.out w6 (.inr I6))
                    clear hw6

                    obtain ⟨L2, hL2⟩ : ∃ L2, L2 = bs.length - t := ⟨_, rfl⟩
                    have htb2 : t ≤ bs.length := by first | exact htb | exact heb
                    have HAt := bat_any W.heap.size rp rv bs t w6 I6.rd
                    have HLf := bleft_any W.heap.size rp rv bs t w6 I6.rd (by omega)
                    rw [← hL2] at HLf
                    have k1 : IntKind.i64.wrap ((bs.length : Int) - (t : Int)) = (L2 : Int) := by rw [IntWalk.i64_in _ ⟨by omega, by omega⟩]; omega
                    have k2 : (bs.length : Int) - (t : Int) = (L2 : Int) := by omega
                    have HAT := Lib.hid HAt
                    have HLF := Lib.hid HLf
                    have I66 := Lib.hid I6
                    have HTB2 := Lib.hid htb2
                    clear HAt HLf hL2 I6 htb2
                    go_wp2_with (first | (go_at_call 26; refine HAT.out.mono ?_; rintro e w' ⟨rfl, rfl⟩) | (go_at_call 25; refine HLF.out.mono ?_; rintro e w' ⟨rfl, q, rfl⟩) | (go_at_call 30; refine HNU.out.mono ?_; rintro e w' ⟨rfl, rfl⟩))
                    go_roundg (ss.length - (i + 1))
                    case measure => have := HD.out; omega
                    case rel => exact ⟨i + 1, t, HD.out, rfl, by go_num, rfl, HTB2.out, I66.out.keptF ((Kept.refl _ _).drewN _)⟩
            · by_cases g1 : z < 0
              · have hTk := btake_no W.heap.size rp rv bs t z wr HI.out.rd (by omega) (by have := HLL.out; omega)
                have HTK := Lib.hid hTk
                clear hTk

                go_wp2_with fail
                refine HTK.out.mono ?_
                rintro e' w6 ⟨rfl, HR6, K6⟩
                have I6 := HI.out.taken HR6 K6
                clear HR6 K6

                obtain ⟨L2, hL2⟩ : ∃ L2, L2 = bs.length - t := ⟨_, rfl⟩
                have htb2 : t ≤ bs.length := by first | exact htb | exact heb
                have HAt := bat_any W.heap.size rp rv bs t w6 I6.rd
                have HLf := bleft_any W.heap.size rp rv bs t w6 I6.rd (by omega)
                rw [← hL2] at HLf
                have k1 : IntKind.i64.wrap ((bs.length : Int) - (t : Int)) = (L2 : Int) := by rw [IntWalk.i64_in _ ⟨by omega, by omega⟩]; omega
                have k2 : (bs.length : Int) - (t : Int) = (L2 : Int) := by omega
                have HAT := Lib.hid HAt
                have HLF := Lib.hid HLf
                have I66 := Lib.hid I6
                have HTB2 := Lib.hid htb2
                clear HAt HLf hL2 I6 htb2
                go_wp2_with (first | (go_at_call 26; refine HAT.out.mono ?_; rintro e w' ⟨rfl, rfl⟩) | (go_at_call 25; refine HLF.out.mono ?_; rintro e w' ⟨rfl, q, rfl⟩))
                go_roundg (ss.length - (i + 1))
                case measure => have := HD.out; omega
                case rel => exact ⟨i + 1, t, HD.out, rfl, by go_num, rfl, HTB2.out, I66.out.keptF ((Kept.refl _ _).drewN _)⟩
              · by_cases g2 : 64 < z
                · have hTk := btake_no W.heap.size rp rv bs t z wr HI.out.rd (by omega) (by have := HLL.out; omega)
                  have HTK := Lib.hid hTk
                  clear hTk

                  go_wp2_with fail
                  refine HTK.out.mono ?_
                  rintro e' w6 ⟨rfl, HR6, K6⟩
                  have I6 := HI.out.taken HR6 K6
                  clear HR6 K6

                  obtain ⟨L2, hL2⟩ : ∃ L2, L2 = bs.length - t := ⟨_, rfl⟩
                  have htb2 : t ≤ bs.length := by first | exact htb | exact heb
                  have HAt := bat_any W.heap.size rp rv bs t w6 I6.rd
                  have HLf := bleft_any W.heap.size rp rv bs t w6 I6.rd (by omega)
                  rw [← hL2] at HLf
                  have k1 : IntKind.i64.wrap ((bs.length : Int) - (t : Int)) = (L2 : Int) := by rw [IntWalk.i64_in _ ⟨by omega, by omega⟩]; omega
                  have k2 : (bs.length : Int) - (t : Int) = (L2 : Int) := by omega
                  have HAT := Lib.hid HAt
                  have HLF := Lib.hid HLf
                  have I66 := Lib.hid I6
                  have HTB2 := Lib.hid htb2
                  clear HAt HLf hL2 I6 htb2
                  go_wp2_with (first | (go_at_call 26; refine HAT.out.mono ?_; rintro e w' ⟨rfl, rfl⟩) | (go_at_call 25; refine HLF.out.mono ?_; rintro e w' ⟨rfl, q, rfl⟩))
                  go_roundg (ss.length - (i + 1))
                  case measure => have := HD.out; omega
                  case rel => exact ⟨i + 1, t, HD.out, rfl, by go_num, rfl, HTB2.out, I66.out.keptF ((Kept.refl _ _).drewN _)⟩
                · by_cases g3 : (L : Int) < z
                  · have hTk := btake_no W.heap.size rp rv bs t z wr HI.out.rd (by omega) (by have := HLL.out; omega)
                    have HTK := Lib.hid hTk
                    clear hTk

                    go_wp2_with fail
                    refine HTK.out.mono ?_
                    rintro e' w6 ⟨rfl, HR6, K6⟩
                    have I6 := HI.out.taken HR6 K6
                    clear HR6 K6

                    obtain ⟨L2, hL2⟩ : ∃ L2, L2 = bs.length - t := ⟨_, rfl⟩
                    have htb2 : t ≤ bs.length := by first | exact htb | exact heb
                    have HAt := bat_any W.heap.size rp rv bs t w6 I6.rd
                    have HLf := bleft_any W.heap.size rp rv bs t w6 I6.rd (by omega)
                    rw [← hL2] at HLf
                    have k1 : IntKind.i64.wrap ((bs.length : Int) - (t : Int)) = (L2 : Int) := by rw [IntWalk.i64_in _ ⟨by omega, by omega⟩]; omega
                    have k2 : (bs.length : Int) - (t : Int) = (L2 : Int) := by omega
                    have HAT := Lib.hid HAt
                    have HLF := Lib.hid HLf
                    have I66 := Lib.hid I6
                    have HTB2 := Lib.hid htb2
                    clear HAt HLf hL2 I6 htb2
                    go_wp2_with (first | (go_at_call 26; refine HAT.out.mono ?_; rintro e w' ⟨rfl, rfl⟩) | (go_at_call 25; refine HLF.out.mono ?_; rintro e w' ⟨rfl, q, rfl⟩))
                    go_roundg (ss.length - (i + 1))
                    case measure => have := HD.out; omega
                    case rel => exact ⟨i + 1, t, HD.out, rfl, by go_num, rfl, HTB2.out, I66.out.keptF ((Kept.refl _ _).drewN _)⟩
                  · obtain ⟨n, rfl⟩ : ∃ n : Nat, z = n := ⟨z.toNat, by omega⟩
                    obtain ⟨e, he⟩ : ∃ e, e = t + n := ⟨_, rfl⟩
                    have e1 : (t : Int) + (n : Int) = (e : Int) := by omega
                    have e2 : IntKind.i64.wrap (e : Int) = (e : Int) := IntWalk.i64_in _ ⟨by omega, by have := HLL.out; omega⟩
                    have heb : e ≤ bs.length := by have := HLL.out; omega

                    have hcap := own_cap HI.out.own
                    have hcut : ∀ w, SlAt w (.slice aa bs.length ca2) (ints bs) → SlAt w (.slice (if ca2 = t then aa else aa.map (·.add t)) (e - t) (ca2 - t)) ((ints bs).drop t |>.take (e - t)) := fun w h => h.cut (by omega) heb hcap
                    obtain ⟨A2, hA2⟩ : ∃ A2, A2 = (if ca2 = t then aa else aa.map (·.add t)) := ⟨_, rfl⟩
                    obtain ⟨n2, hn2⟩ : ∃ n2, n2 = e - t := ⟨_, rfl⟩
                    obtain ⟨c2, hc2⟩ : ∃ c2, c2 = ca2 - t := ⟨_, rfl⟩
                    have s1 := fun w => run_cut (P := Try.prog) Try.underlying27 hiI hzI1 aa bs.length ca2 t e (by omega) (by omega) w
                    have s2 := fun w => run_cutAt (P := Try.prog) Try.underlying27 hiI hzI1 aa bs.length ca2 t e (by omega) (by omega) w
                    rw [← hA2, ← hn2, ← hc2] at s1 s2 hcut
                    obtain ⟨V, hV⟩ : ∃ V, V = numB ((bs.drop t).take n) := ⟨_, rfl⟩
                    have hnum : ∀ w, TakeInv W w rp rv bs e (.slice aa bs.length ca2) ∨ TakeInv W w rp rv bs t (.slice aa bs.length ca2) → Calls Try.prog 30 #[.slice A2 n2 c2] w fun e w' => e = .returned (.int .u64 (V : Int)) ∧ w = w' := fun w h => by
                      have h1 : SlAt w (.slice aa bs.length ca2) (ints bs) := by
                        rcases h with h | h
                        · exact SlAt.ofOwn h.own
                        · exact SlAt.ofOwn h.own
                      have h2 := hcut w h1
                      have h3 : ((ints bs).drop t |>.take n2) = ints ((bs.drop t).take n2) := by unfold ints; rw [List.map_take, List.map_drop]
                      rw [h3] at h2
                      have h4 : n2 = n := by omega
                      have h5 := refNumber_any _ _ w h2 (by rw [List.length_take]; omega)
                      rw [hV, ← h4]; exact h5
                    have HNUM := Lib.hid hnum
                    clear hnum hcut hcap

                    have hTk := btake_yes W.heap.size rp rv bs t n wr HI.out.rd (by omega) (by omega) (by have := HLL.out; omega)
                    rw [← he, ← hV] at hTk
                    have HTK := Lib.hid hTk
                    clear hTk he hA2 hn2 hc2 hV

                    go_wp2_with fail
                    refine HTK.out.mono ?_
                    rintro e' w6 ⟨rfl, HR6, K6⟩
                    have I6 := HI.out.taken HR6 K6
                    have HNU := Lib.hid (HNUM.out w6 (.inl I6))
                    clear HR6 K6

                    obtain ⟨L2, hL2⟩ : ∃ L2, L2 = bs.length - e := ⟨_, rfl⟩
                    have htb2 : e ≤ bs.length := by first | exact htb | exact heb
                    have HAt := bat_any W.heap.size rp rv bs e w6 I6.rd
                    have HLf := bleft_any W.heap.size rp rv bs e w6 I6.rd (by omega)
                    rw [← hL2] at HLf
                    have k1 : IntKind.i64.wrap ((bs.length : Int) - (e : Int)) = (L2 : Int) := by rw [IntWalk.i64_in _ ⟨by omega, by omega⟩]; omega
                    have k2 : (bs.length : Int) - (e : Int) = (L2 : Int) := by omega
                    have HAT := Lib.hid HAt
                    have HLF := Lib.hid HLf
                    have I66 := Lib.hid I6
                    have HTB2 := Lib.hid htb2
                    clear HAt HLf hL2 I6 htb2
                    go_wp2_with (first | (go_at_call 26; refine HAT.out.mono ?_; rintro e w' ⟨rfl, rfl⟩) | (go_at_call 25; refine HLF.out.mono ?_; rintro e w' ⟨rfl, q, rfl⟩) | (go_at_call 30; refine HNU.out.mono ?_; rintro e w' ⟨rfl, rfl⟩))
                    go_roundg (ss.length - (i + 1))
                    case measure => have := HD.out; omega
                    case rel => exact ⟨i + 1, e, HD.out, rfl, by go_num, rfl, HTB2.out, I66.out.keptF ((Kept.refl _ _).drewN _)⟩
        · obtain rfl : i = ss.length := by omega
          go_wp2
          go_ret
          exact ⟨rfl, I.kept⟩
end Go.Proofs.Ytanhdjdojeoodaa
