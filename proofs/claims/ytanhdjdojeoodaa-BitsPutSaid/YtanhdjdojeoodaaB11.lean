/- Layer 1: the walk of 'BitsBack'. -/
import Derived.Test.YtanhdjdojeoodaaB10
namespace Go.Proofs.Ytanhdjdojeoodaa
open Go.RowKit
attribute [local go_sem ↓] Go.wp_at_zero Go.wp_at_succ

def bools (l : List Bool) : List Value := l.map Value.bool
@[simp] theorem bools_length (l : List Bool) : (bools l).length = l.length := by simp [bools]
def u64s (l : List Nat) : List Value := l.map fun (n : Nat) => Value.int .u64 (n : Int)
@[simp] theorem u64s_length (l : List Nat) : (u64s l).length = l.length := by simp [u64s]
def i64s (l : List Int) : List Value := l.map fun (n : Int) => Value.int .i64 n
@[simp] theorem i64s_length (l : List Int) : (i64s l).length = l.length := by simp [i64s]

theorem Kept.after {S : Nat → Prop} {W w w1 : World} (h : Kept (fun _ => False) W w) (k : Kept S w w1) (hs : ∀ k, S k → W.heap.size ≤ k) : Kept (fun _ => False) W w1 :=
  h.step k (fun j hj hS => by have := hs j hS; omega)

/-- What holds while numbers are put down. -/
structure BackInv (W w : World) (p : Nat) (v : Value) (bs : List Bool) (isv : Value) (is : List Bool) : Prop where
  wr : BwAt w W.heap.size p v bs
  own : w.ownsRow W.heap.size 4 1 isv is.length (bools is)
  kept : Kept (fun _ => False) W w

theorem BackInv.put {W w w1 w2 : World} {p n : Nat} {v isv isv2 : Value} {bs bs1 is : List Bool} {b : Bool} (h : BackInv W w p v bs isv is)
    (ht : BwTo w w1 W.heap.size p v bs1) {wa : World} (ha : Kept (fun _ => False) w1 wa) (hown : w2.ownsRow W.heap.size 4 1 isv2 n (bools is ++ [.bool b])) (hn : n = is.length + 1) (hg : wa.grownBy w2 isv.ownBlock) :
    ∃ v2, BackInv W w2 p v2 bs1 isv2 (is ++ [b]) := by
  obtain ⟨v2, H2, _, K2⟩ := ht
  have hlen : (is ++ [b]).length = n := by simp [hn]
  have k1 : Kept (fun k => isv.ownBlock = some k) w1 w2 := (ha.mono (fun _ _ x => x.elim)).grown hg (fun k e _ => e)
  have o1 := (K2.owns h.own (fun k e hS => by
    rcases hS with rfl | hS
    · exact own_ne_blk h.own h.wr.box (by decide) e
    · exact own_ne h.own h.wr.owns (by decide) e hS))
  refine ⟨v2, H2.kept k1 (fun e => own_ne_blk o1 H2.box (by decide) e) (fun k e hS => own_ne o1 H2.owns (by decide) hS e), ?_, ?_⟩
  · rw [hlen]
    have e : bools (is ++ [b]) = bools is ++ [.bool b] := by simp [bools]
    rw [e]; exact hown
  · refine (h.kept.after K2 (fun k hS => ?_)).after k1 (fun k e => (ownsRow_lt o1 e).2)
    rcases hS with rfl | hS
    · exact h.wr.base
    · exact (ownsRow_lt h.wr.owns hS).2

theorem own_base {w : World} {B B' : Nat} {E : TypeId} {s n : Nat} {v : Value} {xs : List Value} (h : w.ownsRow B E s v n xs) (hb : B' ≤ B) : w.ownsRow B' E s v n xs := by
  refine ⟨h.1, ?_⟩
  rcases h.2 with h0 | ⟨g, cap, cur, e, hg, rest⟩
  · exact .inl h0
  · exact .inr ⟨g, cap, cur, e, Nat.le_trans hb hg, rest⟩
theorem BrAt.less {w : World} {B B' p t : Nat} {v : Value} {bs : List Bool} (h : BrAt w B p v bs t) (hb : B' ≤ B) : BrAt w B' p v bs t := ⟨Nat.le_trans hb h.base, h.box, own_base h.owns hb, h.apart, h.taken⟩
theorem blk_ne {w : World} {p q : Nat} {cs ds : Array Value} {T U : TypeId} (h : w.heap[p]? = some (.cells cs T (0, 0))) (h' : w.heap[q]? = some (.cells ds U (0, 0))) (hne : T ≠ U) : p ≠ q := by
  rintro rfl
  rw [h] at h'
  injection h' with h'
  injection h' with _ ht
  exact hne ht

/-- What holds while numbers are taken. -/
structure Back2 (W w : World) (p : Nat) (v : Value) (bs : List Bool) (isv : Value) (is : List Bool) (rp : Nat) (rv : Value) (t : Nat) (vb : Value) : Prop where
  wr : BwAt w W.heap.size p v bs
  own : w.ownsRow W.heap.size 4 1 isv is.length (bools is)
  rd : BrAt w W.heap.size rp rv bs t
  row : ∃ l : List Nat, l.length = (packB bs).length ∧ w.ownsRow W.heap.size 5 1 vb l.length (bys l)
  apart : ∀ k, vb.ownBlock = some k → v.ownBlock ≠ some k ∧ rv.ownBlock ≠ some k
  kept : Kept (fun _ => False) W w

theorem Back2.taken {W w w1 : World} {p rp t t2 : Nat} {v isv rv vb : Value} {bs is : List Bool} (h : Back2 W w p v bs isv is rp rv t vb) (hr : BrAt w1 W.heap.size rp rv bs t2) (hk : Kept (fun k => k = rp) w w1) : Back2 W w1 p v bs isv is rp rv t2 vb := by
  refine ⟨h.wr.kept hk (blk_ne h.wr.box h.rd.box (by decide)) (fun k e hS => own_ne_blk h.wr.owns h.rd.box (by decide) (hS ▸ e)), hk.owns h.own (fun k e hS => own_ne_blk h.own h.rd.box (by decide) (hS ▸ e)), hr, ?_, h.apart, h.kept.after hk (fun k e => by subst e; exact h.rd.base)⟩
  obtain ⟨l, hl, ho⟩ := h.row
  exact ⟨l, hl, hk.owns ho (fun k e hS => own_ne_blk ho h.rd.box (by decide) (hS ▸ e))⟩
theorem Back2.keptF {W w w1 : World} {p rp t : Nat} {v isv rv vb : Value} {bs is : List Bool} (h : Back2 W w p v bs isv is rp rv t vb) (hk : Kept (fun _ => False) w w1) : Back2 W w1 p v bs isv is rp rv t vb := by
  refine ⟨h.wr.keptF hk, hk.owns h.own (fun _ _ x => x), h.rd.keptF hk, ?_, h.apart, h.kept.trans hk⟩
  obtain ⟨l, hl, ho⟩ := h.row
  exact ⟨l, hl, hk.owns ho (fun _ _ x => x)⟩
theorem Back2.cleared {W w : World} {p rp t g n cap j : Nat} {v isv rv : Value} {bs is : List Bool} (h : Back2 W w p v bs isv is rp rv t (.slice (some ⟨g, 0, none⟩) n cap)) : Back2 W (w.setCell ⟨g, j, none⟩ (.int .u8 0)) p v bs isv is rp rv t (.slice (some ⟨g, 0, none⟩) n cap) := by
  obtain ⟨l, hl, ho⟩ := h.row
  have hk : Kept (fun k => k = g) w (w.setCell ⟨g, j, none⟩ (.int .u8 0)) := (Kept.refl (fun k => k = g) w).setCell (fun _ => rfl) _
  have hap := h.apart g rfl
  have hgp : g ≠ p := fun e => own_ne_blk ho h.wr.box (by decide) (by rw [e]; rfl)
  have hgr : g ≠ rp := fun e => own_ne_blk ho h.rd.box (by decide) (by rw [e]; rfl)
  refine ⟨h.wr.kept hk (fun e => hgp e.symm) (fun k e hS => hap.1 (hS ▸ e)), hk.owns h.own (fun k e hS => own_ne h.own ho (by decide) e (by rw [hS]; rfl)), h.rd.kept hk (fun e => hgr e.symm) (fun k e hS => hap.2 (hS ▸ e)), ?_, h.apart, h.kept.after hk (fun k e => by subst e; exact (ownsRow_lt ho rfl).2)⟩
  obtain ⟨_, _, he⟩ := ownsRow_slice ho
  injection he with _ hn _
  subst hn
  refine ⟨l.set j 0, by rw [List.length_set]; exact hl, ?_⟩
  have := owns_set ho j (.int .u8 0)
  have e : (bys l).set j (.int .u8 0) = bys (l.set j 0) := by unfold bys; rw [List.map_set]; rfl
  rw [List.length_set, ← e]
  exact this

/-- The results of Put in a region that draws its order: whatever was drawn ahead. -/
def PutIn (w : World) (B p : Nat) (v : Value) (bs : List Bool) (b : Bool) (e : Ending) (w' : World) : Prop := e = .returned (.bool b) ∧ BwTo w w' B p v bs
theorem BwTo.drewN {w w' : World} {B p q : Nat} {v : Value} {bs : List Bool} (h : BwTo (w.drewN q) w' B p v bs) : BwTo w w' B p v bs := by
  obtain ⟨v', h1, h2, h3⟩ := h
  exact ⟨v', h1, h2, ((Kept.refl _ w).drewN q).trans h3⟩
theorem putIn (B p : Nat) (v : Value) (bs : List Bool) (x : Nat) (z : Int) (w : World) (HW : BwAt w B p v bs) (hB : B ≤ w.heap.size) (hx : x < 18446744073709551616) (hl : bs.length ≤ 1000000000) (q : Nat) :
    Calls Try.prog 16 #[.pointer (some ⟨p, 0, none⟩), .int .u64 x, .int .i64 z] (w.drewN q) (PutIn w B p v (bs ++ putB x z) (putOK x z)) :=
  (bput_any B p v bs x z (w.drewN q) (HW.keptF ((Kept.refl _ w).drewN q)) hB hx hl).mono fun _ _ ⟨he, h⟩ => ⟨he, h.drewN⟩

set_option maxHeartbeats 2000000 in
set_option maxRecDepth 100000 in
theorem bitsBack_walk0 (ao so : Option Addr) (ca cs : Nat) (l : List Nat) (ss : List Int) (W : World) (hv : SlAt W (.slice ao l.length ca) (u64s l)) (hs : SlAt W (.slice so ss.length cs) (i64s ss))
    (hl : l.length ≤ 100) (hls : l.length ≤ ss.length) (hx : ∀ x ∈ l, x < 18446744073709551616) (hz : ∀ z ∈ ss, -9223372036854775808 ≤ z ∧ z ≤ 9223372036854775807) :
    Calls Try.prog 6 #[.slice ao l.length ca, .slice so ss.length cs] W fun e w' => e = .returned (.bool true) ∧ Kept (fun _ => False) W w' := by
  obtain ⟨i0, hi, hz0, hz1, hz2⟩ := info_parts Try.infoBool
  have HV := Lib.hid hv
  have HS := Lib.hid hs
  have HA := Lib.hid (awake1_any W)
  have HX := Lib.hid hx
  have HZ := Lib.hid hz
  obtain ⟨zs, hzs⟩ : ∃ zs, zs = l.zip ss := ⟨_, rfl⟩
  have hzl : zs.length = l.length := by rw [hzs, List.length_zip]; omega
  have HZL := Lib.hid hzl
  have HZS := Lib.hid hzs
  clear hv hs hx hz hzs hzl
  have h1 : ¬ (100 : Int) < (l.length : Int) := by omega
  have h2 : ¬ (ss.length : Int) < (l.length : Int) := by omega
  have h2b : decide (ss.length < l.length) = false := decide_eq_false (by omega)
  go_enter Try.func6, Try.ntmps6
  go_wp2_with fail
  refine HA.out.mono ?_
  rintro e w1 ⟨rfl, K1⟩
  have B1 := K1.size
  go_wp2_with fail
  refine (bnew_any w1).mono ?_
  rintro e w2 ⟨rfl, hw2⟩
  have H0 := bnew_at W.heap.size w1 B1
  rw [← hw2] at H0
  have I0 : BackInv W w2 w1.heap.size (.slice none 0 0) (putAll (zs.take 0)) (.slice none 0 0) ((zs.take 0).map fun a => putOK a.1 a.2) := ⟨H0, World.ownsRow_nil _ _ _ _, by rw [hw2]; exact K1.alloc _⟩
  obtain ⟨p, hp⟩ : ∃ p, p = w1.heap.size := ⟨_, rfl⟩
  rw [← hp] at I0 ⊢
  clear H0 hw2 hp
  go_wp2
  go_loopg [6, 7] l.length (fun g s6 s7 wr => ∃ i : Nat, i ≤ l.length ∧ g = l.length - i ∧ s7 = .int .i64 i ∧ ∃ v, BackInv W wr p v (putAll (zs.take i)) s6 ((zs.take i).map fun a => putOK a.1 a.2))
  case atStart => exact ⟨0, Nat.zero_le _, rfl, rfl, _, I0⟩
  case round =>
    obtain ⟨i, hil, rfl, rfl, v, I⟩ := hrel
    clear I0 B1
    by_cases hd : i < l.length
    · have hvr := HV.out.kept I.kept (fun _ _ x => x)
      have hsr := HS.out.kept I.kept (fun _ _ x => x)
      have HILZ : i < zs.length := by have := HZL.out; omega
      obtain ⟨x, hxe⟩ : ∃ x, x = zs[i].1 := ⟨_, rfl⟩
      obtain ⟨z, hze⟩ : ∃ z, z = zs[i].2 := ⟨_, rfl⟩
      have hx1 : x = l[i] := by rw [hxe]; simp [HZS.out]
      have hz1' : z = ss[i]'(by omega) := by rw [hze]; simp [HZS.out]
      obtain ⟨gl, ol, rfl, hcl⟩ := hvr.elem (i := i) (u := .int .u64 (x : Int)) (by rw [u64s, List.getElem?_map, List.getElem?_eq_getElem hd, hx1]; rfl)
      obtain ⟨gs, os, rfl, hcs⟩ := hsr.elem (i := i) (u := .int .i64 z) (by rw [i64s, List.getElem?_map, List.getElem?_eq_getElem (show i < ss.length by omega), hz1']; rfl)
      have hx2 : x < 18446744073709551616 := by rw [hx1]; exact HX.out _ (List.getElem_mem _)
      have hlb : (putAll (zs.take i)).length ≤ 1000000000 := by have := putAll_length (zs.take i); rw [List.length_take] at this; omega
      have HP1 : Hid (Calls Try.prog 16 #[.pointer (some ⟨p, 0, none⟩), .int .u64 x, .int .i64 z] wr.drew (PutIn wr W.heap.size p v (putAll (zs.take i) ++ putB x z) (putOK x z))) := Lib.hid (putIn W.heap.size p v _ x z wr I.wr I.kept.size hx2 hlb 1)
      have HT : Hid (putAll (zs.take (i + 1)) = putAll (zs.take i) ++ putB x z ∧ ((zs.take (i + 1)).map fun a => putOK a.1 a.2) = ((zs.take i).map fun a => putOK a.1 a.2) ++ [putOK x z]) := by
        show _ ∧ _
        rw [hxe, hze]
        exact ⟨putAll_take zs i HILZ, by rw [List.take_succ_eq_append_getElem HILZ, List.map_append]; rfl⟩
      have hil2 : ((zs.take i).map fun a => putOK a.1 a.2).length = i := by rw [List.length_map, List.length_take]; omega
      have HIL := Lib.hid hil2
      have HD := Lib.hid hd
      have hdi : (i : Int) < (l.length : Int) := by omega
      have hdi2 : (i : Int) < (ss.length : Int) := by omega
      have hdi0 : (0 : Int) ≤ (i : Int) := by omega
      have II := Lib.hid I
      obtain ⟨PB, hPB⟩ : ∃ PB, PB = putAll (zs.take i) := ⟨_, rfl⟩
      obtain ⟨IB, hIB⟩ : ∃ IB, IB = (zs.take i).map fun a => putOK a.1 a.2 := ⟨_, rfl⟩
      rw [← hPB, ← hIB] at HT II
      rw [← hPB] at HP1
      rw [← hIB] at HIL
      clear hxe hze hx1 hz1' hvr hsr hil2 hd HILZ I hPB hIB hlb hx2
      have hbl : gl < W.heap.size := HV.out.lt (Nat.lt_of_le_of_lt (Nat.zero_le _) HD.out) rfl
      have hbs : gs < W.heap.size := HS.out.lt (Nat.lt_of_lt_of_le (Nat.lt_of_le_of_lt (Nat.zero_le _) HD.out) hls) rfl
      have far : ∀ (wp : World) (g o : Nat) (u : Value), BwTo wr wp W.heap.size p v (PB ++ putB x z) → g < W.heap.size → wr.cell? ⟨g, o, none⟩ = some u → wp.cell? ⟨g, o, none⟩ = some u := fun wp g o u ht hg hc => by
        obtain ⟨_, _, _, K⟩ := ht
        refine K.cell hc (fun hS => ?_)
        rcases hS with e | e
        · have h1 := II.out.wr.base; have h2 : g = p := e; omega
        · have h2 : W.heap.size ≤ g := (ownsRow_lt II.out.wr.owns e).2; omega
      have own1 : ∀ wp : World, BwTo wr wp W.heap.size p v (PB ++ putB x z) → wp.ownsRow W.heap.size 4 1 u6 IB.length (bools IB) ∧ W.heap.size ≤ wp.heap.size := fun wp ht => by
        obtain ⟨_, _, _, K⟩ := ht
        refine ⟨K.owns II.out.own (fun k e hS => ?_), Nat.le_trans II.out.kept.size K.size⟩
        rcases hS with rfl | hS
        · exact own_ne_blk II.out.own II.out.wr.box (by decide) e
        · exact own_ne II.out.own II.out.wr.owns (by decide) e hS
      have fin : ∀ (wp wa w2 : World) (v2 : Value), BwTo wr wp W.heap.size p v (PB ++ putB x z) → Kept (fun _ => False) wp wa → w2.ownsRow W.heap.size 4 1 v2 (IB.length + 1) (bools IB ++ [.bool (putOK x z)]) → wa.grownBy w2 u6.ownBlock →
          (∃ v3, BackInv W w2 p v3 (PB ++ putB x z) v2 (IB ++ [putOK x z])) ∧ w2.cell? ⟨gl, ol + i, none⟩ = some (.int .u64 (x : Int)) ∧ w2.cell? ⟨gs, os + i, none⟩ = some (.int .i64 z) := fun wp wa w2 v2 ht hka hown hg => by
        have hn : ∀ (g o : Nat) (u : Value), g < W.heap.size → wp.cell? ⟨g, o, none⟩ = some u → w2.cell? ⟨g, o, none⟩ = some u := fun g o u hgl hc => by
          have h1 := hka.cell hc (fun x => x)
          exact hg.cell h1 (fun e => by have h3 : W.heap.size ≤ g := (ownsRow_lt (own1 wp ht).1 e.symm).2; omega)
        exact ⟨II.out.put ht hka hown rfl hg, hn gl _ _ hbl (far wp gl _ _ ht hbl hcl), hn gs _ _ hbs (far wp gs _ _ ht hbs hcs)⟩
      have FIN := Lib.hid fin
      clear fin
      have FAR := Lib.hid far
      have OWN := Lib.hid own1
      clear far own1
      go_wp2
      go_region_held3 (fun w' => w'.cell? ⟨gl, ol + i, none⟩ = some (.int .u64 (x : Int)) ∧ w'.cell? ⟨gs, os + i, none⟩ = some (.int .i64 z)) (first | exact ⟨hcl1, hcs1⟩ | exact hfin.2 | go_keep)
        (first
          | (go_at_call 16; refine HP1.out.mono ?_; rintro e wp ⟨rfl, ht⟩; have hcl1 := FAR.out wp gl _ _ ht hbl hcl; have hcs1 := FAR.out wp gs _ _ ht hbs hcs; have HT2 := Lib.hid ht; clear ht)
          | (refine step_append_src _ (by rfl) (.tmp 34) (.tmp 45) 51 51 (by rfl) W.heap.size 4 i0 (.bool false) 1 1 Try.underlying51 hi hz0 hz1 hz2 rfl u6 IB.length (bools IB) (by rfl) (by first | exact ((OWN.out wp HT2.out).1.alloc _).drew | exact (OWN.out wp HT2.out).1.alloc _) (.slice (some ⟨wp.heap.size, 0, none⟩) 1 1) 1 [.bool (putOK x z)] (by rfl) (by first | exact src_one_drew wp Try.underlying51 (.bool (putOK x z)) rfl | exact src_one wp Try.underlying51 (.bool (putOK x z)) rfl) (by have := HIL.out; unfold maxLen; omega) (by have := HIL.out; omega) (by have := (OWN.out wp HT2.out).2; simp; omega) ?_; intro v2 w2 hown hg _ hat; have hfin := FIN.out wp _ w2 v2 HT2.out (by first | exact ((Kept.refl _ wp).alloc _).drew | exact (Kept.refl _ wp).alloc _) hown hg; clear hown hg hat hcl1 hcs1)
          | fail)
      obtain ⟨v3, I3⟩ := hfin.1
      have HI3 := Lib.hid I3
      clear hfin I3
      go_wp2
      go_roundg (l.length - (i + 1))
      case measure => have := HD.out; omega
      case rel => exact ⟨i + 1, HD.out, rfl, by go_num, v3, by rw [HT.out.1, HT.out.2]; exact HI3.out⟩
    · obtain rfl : i = l.length := by omega
      have hall : zs.take l.length = zs := List.take_of_length_le (by rw [HZL.out]; exact Nat.le_refl _)
      rw [hall] at I
      clear hall hd
      obtain ⟨IB, hIB⟩ : ∃ IB, IB = zs.map fun a => putOK a.1 a.2 := ⟨_, rfl⟩
      have hilen : IB.length = l.length := by rw [hIB, List.length_map, HZL.out]
      obtain ⟨bs, hbs⟩ : ∃ bs, bs = putAll zs := ⟨_, rfl⟩
      have hbl : bs.length ≤ 6400 := by have h3 := putAll_length zs; rw [← hbs] at h3; have := HZL.out; omega
      rw [← hIB, ← hbs] at I
      have HI := Lib.hid hIB
      have HBS := Lib.hid hbs
      have HIL := Lib.hid hilen
      obtain ⟨ai, ci, rfl⟩ := ownsRow_slice I.own
      clear hIB hbs hilen
      go_wp2_with fail
      refine (bwbytes_any W.heap.size p v bs wr I.wr (by omega)).mono ?_
      rintro e w3 ⟨vb, rfl, hob, K3⟩
      have I3 : BackInv W w3 p v bs (.slice ai IB.length ci) IB := ⟨I.wr.keptF K3, K3.owns I.own (fun _ _ x => x), I.kept.trans K3⟩
      have hvb := SlAt.ofOwn hob
      have hapv : ∀ k, vb.ownBlock = some k → v.ownBlock ≠ some k := fun k e e' => by
        have h3 : wr.heap.size ≤ k := (ownsRow_lt hob e).2
        have h4 : k < wr.heap.size := (ownsRow_lt I.wr.owns e').1
        omega
      have hob2 := own_base hob (B' := W.heap.size) I.kept.size
      obtain ⟨ab, cb, rfl⟩ := ownsRow_slice hob
      clear hob
      rw [bys_length] at hvb hob2 hapv ⊢
      obtain ⟨N, hN⟩ : ∃ N, N = (packB bs).length := ⟨_, rfl⟩
      rw [← hN] at hvb hob2 hapv ⊢
      have HN := Lib.hid hN
      clear hN
      go_wp2_with fail
      refine (bwlen_any W.heap.size p v bs w3 I3.wr).mono ?_
      rintro e w' ⟨rfl, rfl⟩
      go_wp2_with fail
      refine (bopen_yes _ (packB bs) bs.length w3 hvb (by rw [packB_length]; omega) (packB_lt bs) (openE_packed bs)).mono ?_
      rw [bitsOf_packB]
      rintro e w4 ⟨rp, rv, rfl, HR, K4⟩
      have J0 : Back2 W w4 p v bs (.slice ai IB.length ci) IB rp rv (putAll (zs.take 0)).length (.slice ab N cb) :=
        ⟨I3.wr.keptF K4, K4.owns I3.own (fun _ _ x => x), HR.less I3.kept.size, ⟨packB bs, rfl, by rw [← HN.out]; exact K4.owns hob2 (fun _ _ x => x)⟩, fun k e => ⟨hapv k e, fun e' => by
          have h3 : w3.heap.size ≤ k := (ownsRow_lt HR.owns e').2
          have h4 : k < w3.heap.size := (ownsRow_lt hob2 e).1
          omega⟩, I3.kept.trans K4⟩
      clear HR K4 hob2 hvb hapv I3 K3 I
      go_wp2
      go_loopg [11] l.length (fun g s11 wr => ∃ i : Nat, i ≤ l.length ∧ g = l.length - i ∧ s11 = .int .i64 i ∧ Back2 W wr p v bs (.slice ai IB.length ci) IB rp rv (putAll (zs.take i)).length (.slice ab N cb))
      case atStart => exact ⟨0, Nat.zero_le _, rfl, rfl, J0⟩
      case round =>
        obtain ⟨i, hil, rfl, rfl, J⟩ := hrel
        clear J0
        by_cases hd : i < l.length
        · have hvr := HV.out.kept J.kept (fun _ _ x => x)
          have hsr := HS.out.kept J.kept (fun _ _ x => x)
          have HILZ : i < zs.length := by have := HZL.out; omega
          obtain ⟨x, hxe⟩ : ∃ x, x = zs[i].1 := ⟨_, rfl⟩
          obtain ⟨z, hze⟩ : ∃ z, z = zs[i].2 := ⟨_, rfl⟩
          have hx1 : x = l[i] := by rw [hxe]; simp [HZS.out]
          have hz1' : z = ss[i]'(by omega) := by rw [hze]; simp [HZS.out]
          have hbi : IB[i]'(by have := HIL.out; omega) = putOK x z := by simp [HI.out, hxe, hze]
          obtain ⟨gi, oi, rfl, hci⟩ := (SlAt.ofOwn J.own).elem (i := i) (u := .bool (putOK x z)) (by rw [bools, List.getElem?_map, List.getElem?_eq_getElem (by have := HIL.out; omega), hbi]; rfl)
          obtain ⟨gl, ol, rfl, hcl⟩ := hvr.elem (i := i) (u := .int .u64 (x : Int)) (by rw [u64s, List.getElem?_map, List.getElem?_eq_getElem hd, hx1]; rfl)
          obtain ⟨gs, os, rfl, hcs⟩ := hsr.elem (i := i) (u := .int .i64 z) (by rw [i64s, List.getElem?_map, List.getElem?_eq_getElem (show i < ss.length by omega), hz1']; rfl)
          have HD := Lib.hid hd
          have hdi : (i : Int) < (l.length : Int) := by omega
          have hdi2 : (i : Int) < (ss.length : Int) := by omega
          have hdi3 : (i : Int) < (IB.length : Int) := by have := HIL.out; omega
          have hdi0 : (0 : Int) ≤ (i : Int) := by omega
          have hlb : gl < W.heap.size := HV.out.lt (Nat.lt_of_le_of_lt (Nat.zero_le _) hd) rfl
          have hst : putAll (zs.take (i + 1)) = putAll (zs.take i) ++ putB x z := by rw [hxe, hze]; exact putAll_take zs i HILZ
          obtain ⟨t, ht⟩ : ∃ t, t = (putAll (zs.take i)).length := ⟨_, rfl⟩
          have hst2 : (putAll (zs.take (i + 1))).length = t + (putB x z).length := by rw [hst, List.length_append, ht]
          have HST := Lib.hid hst2
          have hle : t + (putB x z).length ≤ bs.length := by rw [ht, hxe, hze, HBS.out]; exact putAll_le zs i HILZ
          have hat : (bs.drop t).take (putB x z).length = putB x z := by rw [ht, hxe, hze, HBS.out]; exact putAll_at zs i HILZ
          rw [← ht] at J
          clear hvr hsr hd hxe hze hx1 hz1' hbi HILZ hst ht hst2
          have HJ := Lib.hid J
          by_cases hok : putOK x z = true
          · have hok2 := hok
            unfold putOK at hok2
            simp only [decide_eq_true_eq] at hok2
            obtain ⟨n, rfl⟩ : ∃ n : Nat, z = n := ⟨z.toNat, by omega⟩
            rw [Int.toNat_natCast] at hok2
            have hpb : putB x (n : Int) = bitsN x n := by unfold putB; rw [if_pos hok, Int.toNat_natCast]
            rw [hpb, bitsN_length] at hle hat HST
            have HT := btake_yes W.heap.size rp rv bs t n wr J.rd (by omega) (by omega) hle
            rw [hat, numB_bitsN x n hok2.2.2] at HT
            have HTT := Lib.hid HT
            rw [hok] at hci
            clear hok hok2 hpb hle hat HT J
            go_wp2_with fail
            refine HTT.out.mono ?_
            rintro e w5 ⟨rfl, HR5, K5⟩
            have hcl5 : w5.cell? ⟨gl, ol + i, none⟩ = some (.int .u64 (x : Int)) := K5.cell hcl (fun e => by have h3 : gl = rp := e; have h4 := HJ.out.rd.base; omega)
            have J5 := Lib.hid (HJ.out.taken HR5 K5)
            clear HR5 K5 hcl hcs hci
            go_wp2
            go_roundg (l.length - (i + 1))
            case measure => have := HD.out; omega
            case rel => exact ⟨i + 1, HD.out, rfl, by go_num, by rw [HST.out]; exact J5.out⟩
          · have hok2 : putOK x z = false := by simpa using hok
            have hpb : putB x z = [] := by unfold putB; rw [if_neg hok]
            rw [hpb] at HST
            rw [hok2] at hci
            clear hok hok2 hpb hle hat J
            go_wp2
            go_roundg (l.length - (i + 1))
            case measure => have := HD.out; omega
            case rel => exact ⟨i + 1, HD.out, rfl, by go_num, by rw [HST.out]; exact HJ.out⟩
        · obtain rfl : i = l.length := by omega
          have hall : zs.take l.length = zs := List.take_of_length_le (by rw [HZL.out]; exact Nat.le_refl _)
          rw [hall, ← HBS.out] at J
          clear hall hd
          obtain ⟨lb, hlb, hob⟩ := J.row
          have hNl : lb.length = N := by rw [hlb, HN.out]
          have hNN : N = (bs.length + 7) / 8 := by rw [HN.out, packB_length]
          have HNN := Lib.hid hNN
          clear hob hNl hlb hNN
          go_wp2
          go_loopg [14] N (fun g s14 wr => ∃ i : Nat, i ≤ N ∧ g = N - i ∧ s14 = .int .i64 i ∧ Back2 W wr p v bs (.slice ai IB.length ci) IB rp rv bs.length (.slice ab N cb))
          case atStart => exact ⟨0, Nat.zero_le _, rfl, rfl, J⟩
          case round =>
            obtain ⟨i, hil2, rfl, rfl, J2⟩ := hrel
            clear J
            have hNb : (N : Int) ≤ 1000 := by have := HNN.out; omega
            by_cases hd : i < N
            · obtain ⟨lb, hlb, hob⟩ := J2.row
              have hlbN : lb.length = N := by rw [hlb, HN.out]
              obtain ⟨gb, rfl⟩ : ∃ gb, ab = some ⟨gb, 0, none⟩ := by
                rcases hob.2 with ⟨e, _⟩ | ⟨g, cap, cur, e, _⟩
                · injection e with e1 e2 e3; omega
                · injection e with e1 e2 e3; exact ⟨g, e1⟩
              obtain ⟨g', o', e', hcell⟩ := (SlAt.ofOwn hob).elem (i := i) (u := .int .u8 ((lb.getD i 0 : Nat) : Int)) (bys_get (by omega))
              cases e'
              have hfr : wr.frozen? ⟨gb, i, none⟩ = false := by
                obtain ⟨cur', hcur'⟩ := ownsRow_block hob (k := gb) rfl
                simp [World.frozen?, hcur']
              rw [Nat.zero_add] at hcell
              have J3 := Lib.hid (J2.cleared (j := i))
              have HD := Lib.hid hd
              have hdi : (i : Int) < (N : Int) := by omega
              have hdi0 : (0 : Int) ≤ (i : Int) := by omega
              clear hob hlb hlbN hd J2
              go_wp2
              go_roundg (N - (i + 1))
              case measure => have := HD.out; omega
              case rel => exact ⟨i + 1, HD.out, rfl, by go_num, J3.out⟩
            · obtain rfl : i = N := by omega
              have HL := Lib.hid (bleft_any W.heap.size rp rv bs bs.length wr J2.rd (by omega))
              have HLEN := fun q => bwlen_any W.heap.size p v bs (wr.drewN q) (J2.wr.keptF ((Kept.refl _ wr).drewN q))
              have HK := J2.kept
              have HLEN' := Lib.hid HLEN
              clear HLEN J2
              by_cases hN0 : i = 0
              · subst hN0
                go_wp2_with (first | (go_at_call 25; refine HL.out.mono ?_; rintro e w' ⟨rfl, q, rfl⟩) | (go_at_call 20; refine (HLEN'.out _).mono ?_; rintro e w' ⟨rfl, rfl⟩))
                go_ret
                exact ⟨by simp, HK.drewN _⟩
              · have hb0 : ((i : Int) == 0) = false := by simp; omega
                have hbb : (8 * (i : Int) - 8 < (bs.length : Int)) := by have := HNN.out; omega
                go_wp2_with (first | (go_at_call 25; refine HL.out.mono ?_; rintro e w' ⟨rfl, q, rfl⟩) | (go_at_call 20; refine (HLEN'.out _).mono ?_; rintro e w' ⟨rfl, rfl⟩))
                go_ret
                exact ⟨by simp, HK.drewN _⟩
end Go.Proofs.Ytanhdjdojeoodaa
