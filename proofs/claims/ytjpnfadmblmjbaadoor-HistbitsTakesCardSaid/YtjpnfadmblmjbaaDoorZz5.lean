/- Texts put together: VB6, VB14, VB16, VB17, V10, V11, V12, V13, V14. -/
import Derived.Test.YtjpnfadmblmjbaaDoorZz4
import Derived.Deep.RegionWith
import Derived.StillTailTactics
/- The document's answers for layer 1: Bits, Number, Bytes, Row, Open. -/
namespace Go.Proofs.YtjpnfadmblmjbaaDoor
open Go.RowKit
attribute [local go_sem ↓] Go.wp_at_zero Go.wp_at_succ

theorem Tryd.infoInt : (Tryd.prog.info? 3).map (fun i => (i.zero, i.size, i.bytes)) = some (some (.int .i64 0), 1, 8) := by kernel_rfl

/-- Noughts and ones as values. -/
def ints (l : List Bool) : List Value := l.map fun b => Value.int .i64 ((b.toNat : Nat) : Int)
@[simp] theorem ints_length (l : List Bool) : (ints l).length = l.length := by simp [ints]
theorem ints_append (a b : List Bool) : ints (a ++ b) = ints a ++ ints b := by simp [ints]
theorem ints_one (l : List Bool) : ∀ u ∈ ints l, u.oneCell' = true := by
  intro u hu; obtain ⟨x, _, rfl⟩ := List.mem_map.1 hu; rfl
theorem ints_get {l : List Bool} {j : Nat} (h : j < l.length) : (ints l)[j]? = some (.int .i64 (((l.getD j false).toNat : Nat) : Int)) := by
  simp [ints, List.getD_eq_getElem?_getD, List.getElem?_eq_getElem h]
theorem take_snocB (l : List Bool) (j : Nat) (h : j < l.length) : l.take (j + 1) = l.take j ++ [l.getD j false] := by
  rw [List.take_succ_eq_append_getElem h, List.getD_eq_getElem?_getD, List.getElem?_eq_getElem h]; rfl
theorem take_snocN (l : List Nat) (j : Nat) (h : j < l.length) : l.take (j + 1) = l.take j ++ [l.getD j 0] := by
  rw [List.take_succ_eq_append_getElem h, List.getD_eq_getElem?_getD, List.getElem?_eq_getElem h]; rfl

theorem own_kept {w wr wa w2 : World} {E : TypeId} {v : Value} {n : Nat} {xs : List Value} (hk : Kept (fun _ => False) w wr) (ha : Kept (fun _ => False) wr wa) (ho : wr.ownsRow w.heap.size E 1 v n xs) (hg : wa.grownBy w2 v.ownBlock) : Kept (fun _ => False) w w2 :=
  (hk.trans ha).grown hg (fun k e hlt => by have := (ownsRow_lt ho e).2; omega)

theorem bit_of (x j : Nat) (hj : j < 8) : (x : Int) / ((128 / 2 ^ j : Nat) : Int) % 2 = (((x.testBit (7 - j)).toNat : Nat) : Int) := by
  have e : 128 / 2 ^ j = 2 ^ (7 - j) := by
    have : (128 : Nat) = 2 ^ (7 - j) * 2 ^ j := by rw [← Nat.pow_add, show 7 - j + j = 7 by omega]
    rw [this, Nat.mul_div_cancel _ (Nat.two_pow_pos j)]
  rw [e]
  have h1 : (x : Int) / ((2 ^ (7 - j) : Nat) : Int) = ((x / 2 ^ (7 - j) : Nat) : Int) := by simp
  rw [h1, Nat.testBit_eq_decide_div_mod_eq]
  by_cases h : x / 2 ^ (7 - j) % 2 = 1
  · simp only [h, decide_true, Bool.toNat_true]; omega
  · simp only [h, decide_false, Bool.toNat_false]; omega

set_option maxHeartbeats 2000000 in
set_option maxRecDepth 100000 in
theorem refBits_any (v : Value) (l : List Nat) (w : World) (hv : SlAt w v (bys l)) (hl : l.length ≤ 1000000000) (hb : ∀ x ∈ l, x < 256) :
    Calls Tryd.prog 20 #[v] w (FreshV 3 w (ints (bitsOf l))) := by
  obtain ⟨i0, hi, hz0, hz1, hz2⟩ := info_parts Tryd.infoInt
  have hlen := bys_length l
  have hv0 := Lib.hid hv
  obtain ⟨ao, c, hval, _, _⟩ := hv.val
  rw [hlen] at hval
  subst hval
  have hst : w.ownsRow w.heap.size 3 1 (.slice none 0 0) (8 * 0) (ints (bitsOf (l.take 0))) := World.ownsRow_nil _ _ _ _
  clear hv hlen
  go_enter Tryd.func20, Tryd.ntmps20
  go_wp2
  go_loopg [3, 4] l.length (fun g s3 s4 wr => ∃ i : Nat, i ≤ l.length ∧ g = l.length - i ∧ s4 = .int .i64 i ∧ wr.ownsRow w.heap.size 3 1 s3 (8 * i) (ints (bitsOf (l.take i))) ∧ Kept (fun _ => False) w wr)
  case atStart => exact ⟨0, Nat.zero_le _, rfl, rfl, hst, Kept.refl _ _⟩
  case round =>
    obtain ⟨i, hil, rfl, rfl, hown, hk⟩ := hrel
    clear hst
    by_cases hd : i < l.length
    · obtain ⟨g, off, c', e, hc⟩ := (hv0.out.kept hk (fun _ _ x => x)).addr (by rw [bys_length]; omega)
      rw [bys_length] at e
      injection e with e1 e2 e3
      subst e1
      have hcell := hc i _ (bys_get hd)
      obtain ⟨x, hx⟩ : ∃ x, x = l.getD i 0 := ⟨_, rfl⟩
      rw [← hx] at hcell
      have hx2 : x < 256 := by rw [hx, List.getD_eq_getElem?_getD, List.getElem?_eq_getElem hd]; exact hb _ (List.getElem_mem hd)
      have HX := Lib.hid hx
      have xw : IntKind.i64.wrap (x : Int) = (x : Int) := IntWalk.i64_in _ ⟨by omega, by omega⟩
      have x0 : (0 : Int) ≤ (x : Int) := by omega
      have hdi : (i : Int) < (l.length : Int) := by omega
      have hst2 : wr.ownsRow w.heap.size 3 1 u3 (8 * i + 0) (ints (bitsOf (l.take i) ++ (bitsN x 8).take 0)) := by simpa using hown
      have HD := Lib.hid hd
      have HSTEP : Hid (ints (bitsOf (l.take i) ++ (bitsN x 8).take 8) = ints (bitsOf (l.take (i + 1)))) := by
        show _ = _
        have e8 : (bitsN x 8).take 8 = bitsN x 8 := List.take_of_length_le (by simp)
        rw [take_snocN l i hd, ← hx, bitsOf_append, e8]
        simp [bitsOf]
      clear hc e2 e3 hx hown hd
      obtain ⟨wo, rfl⟩ : ∃ wo : World, wo = wr := ⟨_, rfl⟩
      go_wp2
      go_loopg [3, 6] 8 (fun g t3 t6 wx => ∃ j : Nat, j ≤ 8 ∧ g = 8 - j ∧ t6 = .int .i64 ((128 / 2 ^ j : Nat) : Int) ∧ wx.ownsRow w.heap.size 3 1 t3 (8 * i + j) (ints (bitsOf (l.take i) ++ (bitsN x 8).take j)) ∧ Kept (fun _ => False) w wx)
      case atStart => exact ⟨0, Nat.zero_le _, rfl, rfl, hst2, hk⟩
      case round =>
        obtain ⟨j, hj, rfl, rfl, hown, hkx⟩ := hrel
        clear hst2
        obtain ⟨K, hK⟩ : ∃ K, K = 128 / 2 ^ j := ⟨_, rfl⟩
        by_cases hd : j < 8
        · have hK0 : 0 < K := by rw [hK]; exact Nat.div_pos (Nat.le_of_dvd (by decide) (Nat.pow_dvd_pow 2 (show j ≤ 7 by omega))) (Nat.two_pow_pos j)
          have hK1 : (0 : Int) < (K : Int) := by omega
          obtain ⟨bt, hbt⟩ : ∃ bt, bt = x.testBit (7 - j) := ⟨_, rfl⟩
          have hbit := bit_of x j hd
          rw [← hK, ← hbt] at hbit
          obtain ⟨y, hy⟩ : ∃ y : Nat, y = bt.toNat := ⟨_, rfl⟩
          rw [← hy] at hbit
          obtain ⟨D, hD⟩ : ∃ D, D = x / K := ⟨_, rfl⟩
          have d1 : (x : Int) / (K : Int) = (D : Int) := by rw [hD]; simp
          have hDx : D ≤ x := by rw [hD]; exact Nat.div_le_self _ _
          rw [d1] at hbit
          have d2 : IntKind.i64.wrap (D : Int) = (D : Int) := IntWalk.i64_in _ ⟨by omega, by omega⟩
          have d3 : (0 : Int) ≤ (D : Int) := by omega
          have d4 : (D : Int).tmod 2 = (y : Int) := by rw [Int.tmod_eq_emod_of_nonneg d3]; exact hbit
          clear hD
          have hn : (ints (bitsOf (l.take i) ++ (bitsN x 8).take j) ++ [Value.int .i64 (y : Int)]) = ints (bitsOf (l.take i) ++ (bitsN x 8).take (j + 1)) := by
            rw [take_snocB (bitsN x 8) j (by simpa using hd), bitsN_getD, ← List.append_assoc, ints_append _ [_]]
            simp [ints, hd, hy, hbt]
          have HN := Lib.hid hn
          obtain ⟨K2, hK2⟩ : ∃ K2, K2 = 128 / 2 ^ (j + 1) := ⟨_, rfl⟩
          have hK3 : K2 = K / 2 := by rw [hK2, Nat.pow_succ, ← Nat.div_div_eq_div_mul, ← hK]
          have hK4 : (K : Int) / 2 = (K2 : Int) := by omega
          have hK5 : K ≤ 128 := by rw [hK]; exact Nat.div_le_self _ _
          have hK6 : IntKind.i64.wrap (K2 : Int) = (K2 : Int) := IntWalk.i64_in _ ⟨by omega, by omega⟩
          have HK2 := Lib.hid hK2
          rw [← hK]
          clear hK hn hK2 hK3 hK5 hy hbt
          go_wp2_with (at_builtin; refine wpList_append_src _ rfl (.tmp 22) (.tmp 27) 26 26 rfl w.heap.size 3 i0 (.int .i64 0) 1 8 Tryd.underlying26 hi hz0 hz1 hz2 rfl u3 (8 * i + j) (ints (bitsOf (l.take i) ++ (bitsN x 8).take j)) rfl (hown.alloc _) (.slice (some ⟨wr.heap.size, 0, none⟩) 1 1) 1 [.int .i64 (y : Int)] rfl (src_one wr Tryd.underlying26 (.int .i64 (y : Int)) rfl) ?c1 ?c2 ?c3 ?_)
          case c1 => unfold maxLen; omega
          case c2 => omega
          case c3 => have := hkx.size; simp; omega
          intro v2 w2 hown2 hg _ hat
          rw [HN.out] at hown2
          have hk2 := own_kept hkx ((Kept.refl _ _).alloc _) hown hg
          clear hg hat
          go_wp2
          go_roundg (8 - (j + 1))
          case measure => omega
          case rel => exact ⟨j + 1, by omega, rfl, by rw [HK2.out], hown2, hk2⟩
        · obtain rfl : j = 8 := by omega
          have hK0 : K = 0 := by rw [hK]
          subst hK0
          rw [← hK]
          rw [HSTEP.out] at hown
          go_wp2
          go_roundg (l.length - (i + 1))
          case measure => have := HD.out; omega
          case rel => exact ⟨i + 1, by have := HD.out; omega, rfl, by go_num, hown, hkx⟩
    · obtain rfl : i = l.length := by omega
      go_wp2
      go_ret
      refine ⟨_, rfl, ?_, hk⟩
      rw [List.take_length] at hown
      simpa using hown
end Go.Proofs.YtjpnfadmblmjbaaDoor
/- Slices cut, in a seat without law 01 (the general parts of B13, B14). -/
namespace Go.Proofs.YtjpnfadmblmjbaaDoor
open Go.RowKit
attribute [local go_sem ↓] Go.wp_at_zero Go.wp_at_succ

theorem openE_full (l : List Nat) : openE l (8 * (l.length : Int)) = 0 := by
  unfold openE
  rw [if_neg (by omega), if_neg (by omega), if_neg (by omega)]
  have e : (8 * (l.length : Int)).toNat = 8 * l.length := by omega
  rw [e, List.drop_eq_nil_of_le (by simp)]; rfl

/-- What holds while bits are taken. -/
structure TakeInv (W w : World) (rp : Nat) (rv : Value) (bs : List Bool) (t : Nat) (av : Value) : Prop where
  rd : BrAt w W.heap.size rp rv bs t
  own : w.ownsRow W.heap.size 3 1 av bs.length (ints bs)
  kept : Kept (fun _ => False) W w
theorem bitsOf_take (l : List Nat) (n : Nat) (h : n ≤ 8 * l.length) : (bitsOf l).take n = bitsOf (l.take (n / 8)) ++ bitsN (l.getD (n / 8) 0 / 2 ^ (8 - n % 8)) (n % 8) := by
  have hsp : bitsOf l = bitsOf (l.take (n / 8)) ++ bitsOf (l.drop (n / 8)) := by rw [← bitsOf_append, List.take_append_drop]
  have hl : (bitsOf (l.take (n / 8))).length = 8 * (n / 8) := by rw [bitsOf_length, List.length_take]; omega
  rw [hsp, List.take_append, List.take_of_length_le (by rw [hl]; omega), hl]
  congr 1
  have e : n - 8 * (n / 8) = n % 8 := by omega
  rw [e]
  by_cases hr : n % 8 = 0
  · rw [hr]; simp [bitsN]
  · have hq : n / 8 < l.length := by omega
    rw [List.drop_eq_getElem_cons hq, bitsOf_cons, List.getD_eq_getElem?_getD, List.getElem?_eq_getElem hq]
    simp only [Option.getD_some]
    have e2 : bitsN l[n / 8] 8 = bitsN (l[n / 8] / 2 ^ (8 - n % 8)) (n % 8) ++ bitsN l[n / 8] (8 - n % 8) := by
      rw [← bitsN_add]; congr 1; omega
    rw [e2, List.append_assoc, List.take_append, List.take_of_length_le (by simp)]
    simp
end Go.Proofs.YtjpnfadmblmjbaaDoor
/- package bitio: Cut. -/
namespace Go.Proofs.YtjpnfadmblmjbaaDoor
open Go.RowKit
attribute [local go_sem ↓] Go.wp_at_zero Go.wp_at_succ

set_option maxHeartbeats 1000000 in
theorem bcut_no (B p : Nat) (v : Value) (bs : List Bool) (n : Int) (w : World) (HW : BwAt w B p v bs) (hn : n < 0 ∨ (bs.length : Int) < n) :
    Calls Tryd.prog 46 #[.pointer (some ⟨p, 0, none⟩), .int .i64 n] w fun e w' => e = .returned (.bool false) ∧ w = w' := by
  have hc := HW.c1
  by_cases h1 : n < 0
  · go_enter Tryd.func46, Tryd.ntmps46
    go_wp2
    go_ret
    exact ⟨rfl, rfl⟩
  · have h2 : (bs.length : Int) < n := by omega
    go_enter Tryd.func46, Tryd.ntmps46
    go_wp2
    go_ret
    exact ⟨rfl, rfl⟩

theorem packB_take (bs : List Bool) (n : Nat) (hn : n ≤ bs.length) (hr : n % 8 = 0) : packB (bs.take n) = (packB bs).take ((n + 7) / 8) := by
  symm
  have hlen : (bs.take n).length = n := by rw [List.length_take]; omega
  apply packB_eq
  · rw [List.length_take, packB_length, hlen]; omega
  · intro j hj
    rw [List.length_take, packB_length] at hj
    rw [List.getElem?_take, if_pos (by omega), packB_get _ _ (by omega), byteAt_take, if_neg (by omega), if_pos (by omega)]
theorem packB_takeX (bs : List Bool) (n : Nat) (hn : n ≤ bs.length) (hr : 0 < n % 8) : packB (bs.take n) = ((packB bs).take ((n + 7) / 8)).set (n / 8) (byteAt bs (n / 8) / 2 ^ (8 - n % 8) * 2 ^ (8 - n % 8)) := by
  symm
  have hlen : (bs.take n).length = n := by rw [List.length_take]; omega
  apply packB_eq
  · rw [List.length_set, List.length_take, packB_length, hlen]; omega
  · intro j hj
    rw [List.length_set, List.length_take, packB_length] at hj
    rw [List.getElem?_set, List.length_take, packB_length, byteAt_take]
    by_cases h : n / 8 = j
    · rw [if_pos h, if_pos (by omega), if_pos h.symm, h]
    · rw [if_neg h, if_neg (fun e => h e.symm), if_pos (by omega), List.getElem?_take, if_pos (by omega), packB_get _ _ (by omega)]

theorem mask_byte (b d : Nat) (hb : b < 256) (hd : d ≤ 8) : bits .and .u8 (b : Int) (255 * 2 ^ d % 256) = ((b / 2 ^ d * 2 ^ d : Nat) : Int) := by
  have h1 : (255 : Int) * 2 ^ d % 256 = ((255 * 2 ^ d % 256 : Nat) : Int) := by simp
  have h2 : 255 * 2 ^ d % 256 < 256 := Nat.mod_lt _ (by decide)
  rw [h1, u8_and_nat _ _ hb h2]
  congr 1
  apply Nat.eq_of_testBit_eq
  intro i
  have e : (256 : Nat) = 2 ^ 8 := rfl
  have e2 : (255 : Nat) = 2 ^ 8 - 1 := rfl
  rw [Nat.testBit_and, e, Nat.testBit_mod_two_pow, Nat.testBit_mul_two_pow, Nat.testBit_mul_two_pow, Nat.testBit_div_two_pow, e2, Nat.testBit_two_pow_sub_one]
  by_cases hi : d ≤ i
  · have e3 : i - d + d = i := by omega
    rw [e3]
    by_cases h8 : i < 8
    · simp [hi, h8]; omega
    · have hz : b.testBit i = false := Nat.testBit_lt_two_pow (Nat.lt_of_lt_of_le hb (by rw [e]; exact Nat.pow_le_pow_right (by omega) (by omega)))
      rw [hz]; simp
  · simp [hi]

/-- Behind the cutting of the row, ahead of that of the number. -/
structure CutMid (w w2 : World) (B p : Nat) (ao : Option Addr) (c : Nat) (bs : List Bool) (n : Nat) : Prop where
  base : B ≤ p
  box : w2.heap[p]? = some (.cells #[.slice ao ((n + 7) / 8) c, .int .i64 bs.length] 80 (0, 0))
  owns : w2.ownsRow B 5 1 (.slice ao ((n + 7) / 8) c) ((n + 7) / 8) (bys ((packB bs).take ((n + 7) / 8)))
  apart : (Value.slice ao ((n + 7) / 8) c).ownBlock ≠ some p
  kept : Kept (fun k => k = p) w w2
  le : n ≤ bs.length
theorem CutMid.c0 {w w2 : World} {B p c n : Nat} {ao : Option Addr} {bs : List Bool} (h : CutMid w w2 B p ao c bs n) : w2.cell? ⟨p, 0, none⟩ = some (.slice ao ((n + 7) / 8) c) := by rw [cell_of_row w2 p 0 _ _ _ h.box]; rfl
theorem CutMid.c1 {w w2 : World} {B p c n : Nat} {ao : Option Addr} {bs : List Bool} (h : CutMid w w2 B p ao c bs n) : w2.cell? ⟨p, 1, none⟩ = some (.int .i64 bs.length) := by rw [cell_of_row w2 p 1 _ _ _ h.box]; rfl
theorem CutMid.free {w w2 : World} {B p c n : Nat} {ao : Option Addr} {bs : List Bool} (h : CutMid w w2 B p ao c bs n) (j : Nat) : w2.frozen? ⟨p, j, none⟩ = false := by simp [World.frozen?, h.box]
theorem BwAt.cut1 {w w2 : World} {B p : Nat} {ao : Option Addr} {c : Nat} {bs : List Bool} (h : BwAt w B p (.slice ao (packB bs).length c) bs) {n m : Nat} (hn : n ≤ bs.length) (hm : m = (n + 7) / 8)
    (h2 : w2 = (w.setCell ⟨p, 0, none⟩ (.slice ao m c)).drew) : CutMid w w2 B p ao c bs n := by
  subst hm
  have hbox : w.heap[p]? = some (.cells #[.slice ao (packB bs).length c, .int .i64 bs.length] 80 (0, 0)) := h.box
  have hap : (Value.slice ao ((n + 7) / 8) c).ownBlock ≠ some p := by have := h.apart; cases ao <;> simp [Value.ownBlock] at this ⊢; exact this
  have K : Kept (fun k => k = p) w w2 := by rw [h2]; exact ((Kept.refl (fun k => k = p) w).setCell (fun _ => rfl) _).drew
  refine ⟨h.base, ?_, ?_, hap, K, hn⟩
  · have h3 : (w.setCell ⟨p, 0, none⟩ (.slice ao ((n + 7) / 8) c)).heap[p]? = some (.cells #[.slice ao ((n + 7) / 8) c, .int .i64 bs.length] 80 (0, 0)) := by simp [World.setCell, Array.getElem?_modify, hbox]
    rw [h2]; exact h3
  · have ho := own_takeH h.owns (k := (n + 7) / 8) (by rw [packB_length]; omega)
    have e : (bys (packB bs)).take ((n + 7) / 8) = bys ((packB bs).take ((n + 7) / 8)) := by unfold bys; rw [List.map_take]
    rw [e] at ho
    exact K.owns ho (fun k e hS => hap (by rw [e, hS]))
theorem CutMid.fin {w w2 : World} {B p c n : Nat} {ao : Option Addr} {bs : List Bool} {v : Value} (h : CutMid w w2 B p ao c bs n) (hv : v.ownBlock = ao.map (·.block)) (hr : n % 8 = 0) : BwTo w (w2.setCell ⟨p, 1, none⟩ (.int .i64 n)) B p v (bs.take n) := by
  have hle := h.le
  have hlen : (bs.take n).length = n := by rw [List.length_take]; omega
  have hpk := packB_take bs n h.le hr
  have hpl : (packB (bs.take n)).length = (n + 7) / 8 := by rw [packB_length, hlen]
  refine ⟨.slice ao ((n + 7) / 8) c, ⟨h.base, ?_, ?_, h.apart⟩, .inl (by rw [hv]; cases ao <;> rfl), (h.kept.setCell (fun _ => rfl) _).mono (fun _ _ e => .inl e)⟩
  · rw [hlen]; simp [World.setCell, Array.getElem?_modify, h.box]
  · rw [hpl, hpk]
    exact ((Kept.refl (fun k => k = p) w2).setCell (p := ⟨p, 1, none⟩) (fun _ => rfl) _).owns h.owns (fun k e hS => h.apart (by rw [e, hS]))

/-- Behind the number. -/
structure CutMid3 (w w3 : World) (B p : Nat) (ao : Option Addr) (c : Nat) (bs : List Bool) (n : Nat) : Prop where
  base : B ≤ p
  box : w3.heap[p]? = some (.cells #[.slice ao ((n + 7) / 8) c, .int .i64 n] 80 (0, 0))
  owns : w3.ownsRow B 5 1 (.slice ao ((n + 7) / 8) c) ((n + 7) / 8) (bys ((packB bs).take ((n + 7) / 8)))
  apart : (Value.slice ao ((n + 7) / 8) c).ownBlock ≠ some p
  kept : Kept (fun k => k = p) w w3
  le : n ≤ bs.length
theorem CutMid.mid3 {w w2 w3 : World} {B p c n : Nat} {ao : Option Addr} {bs : List Bool} (h : CutMid w w2 B p ao c bs n) (h3 : w3 = w2.setCell ⟨p, 1, none⟩ (.int .i64 n)) : CutMid3 w w3 B p ao c bs n := by
  subst h3
  exact ⟨h.base, by simp [World.setCell, Array.getElem?_modify, h.box], ((Kept.refl (fun k => k = p) w2).setCell (p := ⟨p, 1, none⟩) (fun _ => rfl) _).owns h.owns (fun k e hS => h.apart (by rw [e, hS])), h.apart, h.kept.setCell (fun _ => rfl) _, h.le⟩
theorem CutMid3.c0 {w w3 : World} {B p c n : Nat} {ao : Option Addr} {bs : List Bool} (h : CutMid3 w w3 B p ao c bs n) : w3.cell? ⟨p, 0, none⟩ = some (.slice ao ((n + 7) / 8) c) := by rw [cell_of_row w3 p 0 _ _ _ h.box]; rfl
theorem CutMid3.at_ {w w3 : World} {B p c n q : Nat} {ao : Option Addr} {bs : List Bool} (h : CutMid3 w w3 B p ao c bs n) (hr : 0 < n % 8) (hq : q = n / 8) :
    ∃ g, ao = some ⟨g, 0, none⟩ ∧ g ≠ p ∧ w3.cell? ⟨g, q, none⟩ = some (.int .u8 ((byteAt bs q : Nat) : Int)) ∧ w3.frozen? ⟨g, q, none⟩ = false := by
  have hle := h.le
  have hm : q < (n + 7) / 8 := by omega
  rcases h.owns.2 with ⟨_, h0⟩ | ⟨g, cap, cur, e, _, hg, _⟩
  · omega
  · injection e with e1 e2 e3
    subst e1
    refine ⟨g, rfl, fun e => h.apart (by rw [e]; rfl), ?_, by simp [World.frozen?, hg]⟩
    have hlen : q < ((packB bs).take ((n + 7) / 8)).length := by rw [List.length_take, packB_length]; omega
    rw [h.owns.cellAt q (by omega), bys_get hlen, List.getD_eq_getElem?_getD, List.getElem?_take, if_pos hm, packB_get _ _ (by omega)]; rfl
theorem CutMid3.fin3 {w w3 : World} {B p c n q g z : Nat} {bs : List Bool} {v : Value} (h : CutMid3 w w3 B p (some ⟨g, 0, none⟩) c bs n) (hv : v.ownBlock = (some (⟨g, 0, none⟩ : Addr)).map (·.block)) (hr : 0 < n % 8) (hq : q = n / 8)
    (hz : z = byteAt bs q / 2 ^ (8 - n % 8) * 2 ^ (8 - n % 8)) (j : Nat) : BwTo w ((w3.drewN j).setCell ⟨g, q, none⟩ (.int .u8 (z : Int))) B p v (bs.take n) := by
  have hle := h.le
  have hlen : (bs.take n).length = n := by rw [List.length_take]; omega
  have hgp : g ≠ p := fun e => h.apart (by rw [e]; rfl)
  have hpk := packB_takeX bs n h.le hr
  have hpl : (packB (bs.take n)).length = (n + 7) / 8 := by rw [packB_length, hlen]
  refine ⟨.slice (some ⟨g, 0, none⟩) ((n + 7) / 8) c, ⟨h.base, ?_, ?_, h.apart⟩, .inl (by rw [hv]; rfl), ((h.kept.drewN j).mono (fun _ _ e => .inl e)).setCell (fun _ => .inr (by rw [hv]; rfl)) _⟩
  · rw [hlen]
    have e := Below.heap_setCell (w3.drewN j) ⟨g, q, none⟩ (.int .u8 (z : Int)) p (fun e => hgp e.symm)
    rw [e]; exact h.box
  · rw [hpl, hpk]
    have o1 : (w3.drewN j).ownsRow B 5 1 (.slice (some ⟨g, 0, none⟩) ((n + 7) / 8) c) ((n + 7) / 8) (bys ((packB bs).take ((n + 7) / 8))) := h.owns
    have o2 := owns_set o1 q (.int .u8 (z : Int))
    have e : (bys ((packB bs).take ((n + 7) / 8))).set q (.int .u8 (z : Int)) = bys (((packB bs).take ((n + 7) / 8)).set (n / 8) (byteAt bs (n / 8) / 2 ^ (8 - n % 8) * 2 ^ (8 - n % 8))) := by
      unfold bys; rw [List.map_set, hz, hq]
    rw [e] at o2; exact o2

set_option maxHeartbeats 2000000 in
set_option maxRecDepth 100000 in
theorem bcut_yes (B p : Nat) (v : Value) (bs : List Bool) (n : Nat) (w : World) (HW : BwAt w B p v bs) (hl : bs.length ≤ 1000000000) (hn : n ≤ bs.length) :
    Calls Tryd.prog 46 #[.pointer (some ⟨p, 0, none⟩), .int .i64 n] w fun e w' => e = .returned (.bool true) ∧ BwTo w w' B p v (bs.take n) := by
  obtain ⟨i0, hi, hz0, hz1, hz2⟩ := info_parts Tryd.infoU8
  have hc0 := HW.c0
  have hc1 := HW.c1
  have hf0 := HW.free 0
  have hf1 := HW.free 1
  have h1 : ¬ (n : Int) < 0 := by omega
  have h2 : ¬ (bs.length : Int) < (n : Int) := by omega
  have h2b : decide (bs.length < n) = false := decide_eq_false (by omega)
  obtain ⟨ao, cp, rfl⟩ := ownsRow_slice HW.owns
  obtain ⟨m, hm⟩ : ∃ m, m = (n + 7) / 8 := ⟨_, rfl⟩
  have hcap := own_cap HW.owns
  have hmc : m ≤ cp := by rw [packB_length] at hcap; omega
  have s1 := fun w => run_cutH (P := Tryd.prog) Tryd.underlying33 hi hz1 ao (packB bs).length cp m hmc w
  have s2 := fun w => run_cutHAt (P := Tryd.prog) Tryd.underlying33 hi hz1 ao (packB bs).length cp m hmc w
  have hs : ∀ w, Calls Tryd.prog 54 #[.int .i64 (n : Int)] w fun e w' => e = .returned (.int .i64 (m : Int)) ∧ w = w' := fun w => by rw [hm]; exact bsize_any n (by omega) w
  have HSZ := Lib.hid hs
  have mw : IntKind.i64.wrap (m : Int) = (m : Int) := IntWalk.i64_in _ ⟨by omega, by omega⟩
  have hvb : (Value.slice ao (packB bs).length cp).ownBlock = ao.map (·.block) := by cases ao <;> rfl
  have HVB := Lib.hid hvb
  clear hvb
  have HWW := Lib.hid HW
  have HM := Lib.hid hm
  have hpl := HW.lt
  clear HW hs hm hcap
  go_enter Tryd.func46, Tryd.ntmps46
  go_wp2
  go_region_with (go_at_call 54; refine (HSZ.out _).mono ?_; rintro e w' ⟨rfl, rfl⟩)
  all_goals
    obtain ⟨w2, hw2⟩ : ∃ w2, w2 = (w.setCell ⟨p, 0, none⟩ (.slice ao m cp)).drew := ⟨_, rfl⟩
    have C2 := HWW.out.cut1 hn HM.out hw2
    rw [← hw2]
    clear hw2 hc0 hc1 hf0 hf1
    obtain ⟨r, hr⟩ : ∃ r, r = n % 8 := ⟨_, rfl⟩
    have r1 : (n : Int) % 8 = (r : Int) := by omega
    have hc0 := C2.c0
    rw [← HM.out] at hc0
    have hc1 := C2.c1
    have hf0 := C2.free 0
    have hf1 := C2.free 1
    by_cases hr0 : 0 < r
    · have hr1 : (0 : Int) < (r : Int) := by omega
      obtain ⟨w3, hw3⟩ : ∃ w3, w3 = w2.setCell ⟨p, 1, none⟩ (.int .i64 n) := ⟨_, rfl⟩
      have C3 := C2.mid3 hw3
      obtain ⟨q, hq⟩ : ∃ q, q = n / 8 := ⟨_, rfl⟩
      obtain ⟨d, hd⟩ : ∃ d, d = 8 - r := ⟨_, rfl⟩
      obtain ⟨g, rfl, hgp, hcell, hfr⟩ := C3.at_ (by omega) hq
      obtain ⟨b, hb⟩ : ∃ b, b = byteAt bs q := ⟨_, rfl⟩
      have hb2 : b < 256 := by rw [hb]; exact byteAt_lt _ _
      rw [← hb] at hcell
      have d1 : 8 - (r : Int) = (d : Int) := by omega
      have d2 : IntKind.i64.wrap (8 - (r : Int)) = (d : Int) := by rw [d1]; exact IntWalk.i64_in _ ⟨by omega, by omega⟩
      have hd0 : (0 : Int) ≤ (d : Int) := by omega
      obtain ⟨z, hz⟩ : ∃ z, z = b / 2 ^ d * 2 ^ d := ⟨_, rfl⟩
      have mk := mask_byte b d hb2 (by omega)
      have mk2 : bits .and .u8 (b : Int) (IntKind.u8.wrap (255 * 2 ^ d)) = (z : Int) := by rw [hz, ← mk, IntKind.wrap_u8]
      rw [← hz] at mk
      have r2 : (n : Int) / 8 = (q : Int) := by omega
      have r3 : IntKind.i64.wrap (q : Int) = (q : Int) := IntWalk.i64_in _ ⟨by omega, by omega⟩
      have hq0 : (0 : Int) ≤ (q : Int) := by omega
      have hqm : (q : Int) < (m : Int) := by have := HM.out; omega
      have k0 := C3.c0
      rw [← HM.out] at k0
      have fin := Lib.hid fun j => C3.fin3 HVB.out (by omega) hq (show z = byteAt bs q / 2 ^ (8 - n % 8) * 2 ^ (8 - n % 8) by rw [hz, hb, hd, hr]) j
      have HW3 := Lib.hid hw3
      clear C2 C3 hr hq hd hb hz hb2 hw3
      go_wp2
      rw [← HW3.out]
      clear hc0 hc1 hf0 hf1
      go_region
      go_wp2
      go_ret
      exact ⟨rfl, fin.out _⟩
    · have hr1 : ¬ (0 : Int) < (r : Int) := by omega
      have fin := Lib.hid (C2.fin HVB.out (by omega))
      clear C2 hr
      go_wp2
      go_ret
      exact ⟨rfl, fin.out⟩
end Go.Proofs.YtjpnfadmblmjbaaDoor
/- The document's answers for layer 1: Bytes, Row. -/
namespace Go.Proofs.YtjpnfadmblmjbaaDoor
open Go.RowKit
attribute [local go_sem ↓] Go.wp_at_zero Go.wp_at_succ

/-- So many bits from a place on, noughts behind the end. -/
def padB (bs : List Bool) (i k : Nat) : List Bool := (List.range k).map fun j => bs.getD (i + j) false
@[simp] theorem padB_length (bs : List Bool) (i k : Nat) : (padB bs i k).length = k := by simp [padB]
theorem padB_succ (bs : List Bool) (i k : Nat) : padB bs i (k + 1) = padB bs i k ++ [bs.getD (i + k) false] := by
  unfold padB; rw [List.range_succ, List.map_append]; rfl
theorem padB_byte (bs : List Bool) (j : Nat) : numB (padB bs (8 * j) 8) = byteAt bs j := by
  apply Nat.eq_of_testBit_eq
  intro i
  rw [numB_testBit, byteAt_testBit, padB_length]
  by_cases hi : i < 8
  · have e : (padB bs (8 * j) 8).getD (8 - 1 - i) false = bs.getD (8 * j + (7 - i)) false := by
      unfold padB
      rw [List.getD_eq_getElem?_getD, List.getElem?_map, List.getElem?_range (by omega)]
      rfl
    rw [e]
  · simp [hi]

set_option maxHeartbeats 2000000 in
set_option maxRecDepth 100000 in
theorem refBytes_any (v : Value) (bs : List Bool) (w : World) (hv : SlAt w v (ints bs)) (hl : bs.length ≤ 1000000000) :
    Calls Tryd.prog 18 #[v] w (FreshV 5 w (bys (packB bs))) := by
  obtain ⟨i0, hi, hz0, hz1, hz2⟩ := info_parts Tryd.infoU8
  have hlen := ints_length bs
  have hv0 := Lib.hid hv
  obtain ⟨ao, c, hval, _, _⟩ := hv.val
  rw [hlen] at hval
  subst hval
  obtain ⟨N, hN⟩ : ∃ N, N = (bs.length + 7) / 8 := ⟨_, rfl⟩
  have hst : w.ownsRow w.heap.size 5 1 (.slice none 0 0) 0 (bys ((packB bs).take 0)) := World.ownsRow_nil _ _ _ _
  have HN := Lib.hid hN
  clear hv hlen hN
  go_enter Tryd.func18, Tryd.ntmps18
  go_wp2
  go_loopg [3, 4] N (fun g s3 s4 wr => ∃ i : Nat, i ≤ N ∧ g = N - i ∧ s4 = .int .i64 ((8 * i : Nat) : Int) ∧ wr.ownsRow w.heap.size 5 1 s3 i (bys ((packB bs).take i)) ∧ Kept (fun _ => False) w wr)
  case atStart => exact ⟨0, Nat.zero_le _, rfl, rfl, hst, Kept.refl _ _⟩
  case round =>
    obtain ⟨i, hil, rfl, rfl, hown, hk⟩ := hrel
    clear hst
    obtain ⟨I, hI⟩ : ∃ I, I = 8 * i := ⟨_, rfl⟩
    rw [← hI]
    by_cases hd : i < N
    · have hIb : I < bs.length := by have := HN.out; omega
      have hIl : (I : Int) < (bs.length : Int) := by omega
      have I0 : (0 : Int) ≤ (I : Int) := by omega
      have HOWN := Lib.hid hown
      have HI := Lib.hid hI
      have HD := Lib.hid hd
      clear hown hI hd
      obtain ⟨wo, rfl⟩ : ∃ wo : World, wo = wr := ⟨_, rfl⟩
      go_wp2
      go_loopg [5, 6] 8 (fun g t5 t6 wr => ∃ k : Nat, k ≤ 8 ∧ g = 8 - k ∧ t6 = .int .i64 k ∧ t5 = .int .i64 ((numB (padB bs I k) : Nat) : Int) ∧ wo = wr)
      case atStart => exact ⟨0, Nat.zero_le _, rfl, rfl, rfl, rfl⟩
      case round =>
        obtain ⟨k, hk8, rfl, rfl, rfl, rfl⟩ := hrel
        obtain ⟨V, hV⟩ : ∃ V, V = numB (padB bs I k) := ⟨_, rfl⟩
        have hVl : V < 256 := by
          have h1 := numB_lt (padB bs I k)
          rw [← hV, padB_length] at h1
          have h2 : 2 ^ k ≤ 2 ^ 8 := Nat.pow_le_pow_right (by omega) hk8
          omega
        rw [← hV]
        by_cases hd : k < 8
        · have hkd : (k : Int) < 8 := by omega
          have k0 : (0 : Int) ≤ (k : Int) := by omega
          obtain ⟨a, ha⟩ : ∃ a, a = I + k := ⟨_, rfl⟩
          have a1 : (I : Int) + (k : Int) = (a : Int) := by omega
          have a2 : IntKind.i64.wrap ((I : Int) + (k : Int)) = (a : Int) := by rw [a1]; exact IntWalk.i64_in _ ⟨by omega, by omega⟩
          have a3 : IntKind.i64.wrap (a : Int) = (a : Int) := IntWalk.i64_in _ ⟨by omega, by omega⟩
          have a0 : (0 : Int) ≤ (a : Int) := by omega
          obtain ⟨y, hy⟩ : ∃ y, y = (bs.getD a false).toNat := ⟨_, rfl⟩
          have hy1 : y ≤ 1 := by rw [hy]; exact Bool.toNat_le _
          obtain ⟨X, hX⟩ : ∃ X, X = 2 * V + y := ⟨_, rfl⟩
          have hXn : X = numB (padB bs I (k + 1)) := by rw [padB_succ, numB_snoc, hX, hV, hy, ha]
          have HX := Lib.hid hXn
          have x1 : IntKind.i64.wrap (2 * (V : Int)) = 2 * (V : Int) := IntWalk.i64_in _ ⟨by omega, by omega⟩
          have x2 : 2 * (V : Int) + (y : Int) = (X : Int) := by omega
          have x3 : IntKind.i64.wrap (X : Int) = (X : Int) := IntWalk.i64_in _ ⟨by omega, by omega⟩
          have HDK := Lib.hid hd
          by_cases hal : a < bs.length
          · obtain ⟨g, off, rfl, hcell⟩ := (hv0.out.kept hk (fun _ _ x => x)).elem (i := a) (u := .int .i64 ((y : Nat) : Int)) (by rw [ints_get hal, hy])
            have hald : (a : Int) < (bs.length : Int) := by omega
            have haldb : decide (a < bs.length) = true := decide_eq_true hal
            clear hV hVl hX hXn hy hy1 ha hd hal
            go_wp2
            go_roundg (8 - (k + 1))
            case measure => have := HDK.out; omega
            case rel => exact ⟨k + 1, HDK.out, rfl, by go_num, by rw [HX.out], rfl⟩
          · have hald : ¬ (a : Int) < (bs.length : Int) := by omega
            have haldb : decide (a < bs.length) = false := decide_eq_false hal
            have hy0 : y = 0 := by rw [hy, List.getD_eq_getElem?_getD, List.getElem?_eq_none (by omega)]; rfl
            have x4 : 2 * (V : Int) = (X : Int) := by omega
            clear hV hVl hX hXn hy hy1 ha hd hal x2 hy0 x1
            have x5 : IntKind.i64.wrap (2 * (V : Int)) = (X : Int) := by rw [x4]; exact x3
            go_wp2
            go_roundg (8 - (k + 1))
            case measure => have := HDK.out; omega
            case rel => exact ⟨k + 1, HDK.out, rfl, by go_num, by rw [HX.out], rfl⟩
        · obtain rfl : k = 8 := by omega
          have hVb : V = byteAt bs i := by rw [hV, HI.out]; exact padB_byte bs i
          have vw : IntKind.u8.wrap (V : Int) = (V : Int) := by rw [IntKind.wrap_u8]; omega
          have vw2 : (V : Int) % 256 = (V : Int) := by omega
          have hn : (bys ((packB bs).take i) ++ [Value.int .u8 (V : Int)]) = bys ((packB bs).take (i + 1)) := by
            have hlp : i < (packB bs).length := by rw [packB_length]; have := HD.out; have := HN.out; omega
            rw [take_snocN _ i hlp, bys_append, packB_getD, hVb]; rfl
          have HNN := Lib.hid hn
          have HS8 : Hid (((8 * (i + 1) : Nat) : Int) = (I : Int) + 8) := Lib.hid (by have := HI.out; omega)
          have hi1 : IntKind.i64.wrap ((I : Int) + 8) = (I : Int) + 8 := IntWalk.i64_in _ ⟨by omega, by omega⟩
          have hown := HOWN.out
          clear hV hVl hVb hn hd hk8
          go_wp2_with (at_builtin; refine wpList_append_src _ rfl (.tmp 33) (.tmp 36) 33 33 rfl w.heap.size 5 i0 (.int .u8 0) 1 1 Tryd.underlying33 hi hz0 hz1 hz2 rfl u3 i (bys ((packB bs).take i)) rfl (hown.alloc _) (.slice (some ⟨wo.heap.size, 0, none⟩) 1 1) 1 [.int .u8 (V : Int)] rfl (src_one wo Tryd.underlying33 (.int .u8 (V : Int)) rfl) ?c1 ?c2 ?c3 ?_)
          case c1 => have := HN.out; have := HD.out; unfold maxLen; omega
          case c2 => have := HN.out; have := HD.out; omega
          case c3 => have := hk.size; simp; omega
          intro v2 w2 hown2 hg _ hat
          rw [HNN.out] at hown2
          have hk2 := own_kept hk ((Kept.refl _ _).alloc _) hown hg
          clear hg hat hown
          go_wp2
          go_roundg (N - (i + 1))
          case measure => have := HD.out; omega
          case rel => exact ⟨i + 1, HD.out, rfl, by rw [HS8.out], hown2, hk2⟩
    · obtain rfl : i = N := by omega
      have hIl : ¬ (I : Int) < (bs.length : Int) := by have := HN.out; omega
      have hIlb : decide (I < bs.length) = false := decide_eq_false (by have := HN.out; omega)
      have hfin : FreshV 5 w (bys (packB bs)) (.returned u3) wr := by
        refine ⟨u3, rfl, ?_, hk⟩
        rw [List.take_of_length_le (by rw [packB_length, HN.out]; exact Nat.le_refl _)] at hown
        rw [bys_length, packB_length, ← HN.out]; exact hown
      have HF := Lib.hid hfin
      clear hfin hown hI
      go_wp2
      go_ret
      exact HF.out

/-- What Row answers. -/
def RowOf (w : World) (x : Nat) (z : Int) (e : Ending) (w' : World) : Prop :=
  if 0 ≤ z ∧ z ≤ 64 then ∃ v, e = .returned (.tuple #[v, .bool (decide (x / 2 ^ z.toNat = 0))]) ∧ w'.ownsRow w.heap.size 3 1 v z.toNat (ints (bitsN x z.toNat)) ∧ Kept (fun _ => False) w w'
  else e = .returned (.tuple #[.slice none 0 0, .bool false]) ∧ w = w'

set_option maxHeartbeats 2000000 in
set_option maxRecDepth 100000 in
theorem refRow_any (x : Nat) (z : Int) (hx : x < 18446744073709551616) (w : World) :
    Calls Tryd.prog 51 #[.int .u64 x, .int .i64 z] w (RowOf w x z) := by
  obtain ⟨i0, hi, hz0, hz1, hz2⟩ := info_parts Tryd.infoInt
  by_cases h1 : z < 0
  · have HR : Hid (∀ e w', (e = .returned (.tuple #[.slice none 0 0, .bool false]) ∧ w = w') → RowOf w x z e w') := Lib.hid fun e w' h => by unfold RowOf; rw [if_neg (by omega)]; exact h
    go_enter Tryd.func51, Tryd.ntmps51
    go_wp2
    go_ret2
    exact HR.out _ _ ⟨rfl, rfl⟩
  · by_cases h2 : 64 < z
    · have HR : Hid (∀ e w', (e = .returned (.tuple #[.slice none 0 0, .bool false]) ∧ w = w') → RowOf w x z e w') := Lib.hid fun e w' h => by unfold RowOf; rw [if_neg (by omega)]; exact h
      go_enter Tryd.func51, Tryd.ntmps51
      go_wp2
      go_ret2
      exact HR.out _ _ ⟨rfl, rfl⟩
    · obtain ⟨n, rfl⟩ : ∃ n : Nat, z = n := ⟨z.toNat, by omega⟩
      have HR : Hid (∀ e w', (∃ v, e = .returned (.tuple #[v, .bool (decide (x / 2 ^ n = 0))]) ∧ w'.ownsRow w.heap.size 3 1 v n (ints (bitsN x n)) ∧ Kept (fun _ => False) w w') → RowOf w x n e w') := Lib.hid fun e w' h => by unfold RowOf; rw [if_pos ⟨by omega, by omega⟩, Int.toNat_natCast]; exact h
      have hst : w.ownsRow w.heap.size 3 1 (.slice none 0 0) 0 (ints (bitsN x 0)) := World.ownsRow_nil _ _ _ _
      go_enter Tryd.func51, Tryd.ntmps51
      go_wp2
      go_loopg [0, 6, 7] n (fun g s0 s6 s7 wr => ∃ i : Nat, i ≤ n ∧ g = n - i ∧ s7 = .int .i64 i ∧ s0 = .int .u64 ((x / 2 ^ i : Nat) : Int) ∧ wr.ownsRow w.heap.size 3 1 s6 i (ints (bitsN x i)) ∧ Kept (fun _ => False) w wr)
      case atStart => exact ⟨0, Nat.zero_le _, rfl, rfl, by simp, hst, Kept.refl _ _⟩
      case round =>
        obtain ⟨i, hil, rfl, rfl, rfl, hown, hk⟩ := hrel
        clear hst
        obtain ⟨V, hV⟩ : ∃ V, V = x / 2 ^ i := ⟨_, rfl⟩
        have hVx : V ≤ x := by rw [hV]; exact Nat.div_le_self _ _
        rw [← hV]
        by_cases hd : i < n
        · obtain ⟨y, hy⟩ : ∃ y, y = V % 2 := ⟨_, rfl⟩
          have y1 : (V : Int) % 2 = (y : Int) := by omega
          have y2 : IntKind.i64.wrap (y : Int) = (y : Int) := IntWalk.i64_in _ ⟨by omega, by omega⟩
          obtain ⟨V2, hV2⟩ : ∃ V2, V2 = V / 2 := ⟨_, rfl⟩
          have v1 : (V : Int) / 2 = (V2 : Int) := by omega
          have v0 : (0 : Int) ≤ (V : Int) := by omega
          have v2w : IntKind.u64.wrap (V2 : Int) = (V2 : Int) := by rw [IntKind.wrap_u64]; omega
          have hVn : V2 = x / 2 ^ (i + 1) := by rw [hV2, hV, Nat.pow_succ, Nat.div_div_eq_div_mul]
          have hn : Value.int .i64 (y : Int) :: ints (bitsN x i) = ints (bitsN x (i + 1)) := by
            have e : i + 1 = 1 + i := by omega
            rw [e, bitsN_add, ints_append, ← hV]
            have e2 : bitsN V 1 = [V.testBit 0] := rfl
            rw [e2, hy]
            simp only [ints, List.map_cons, List.map_nil, List.cons_append, List.nil_append]
            congr 2
            rw [Nat.testBit_zero]
            by_cases h : V % 2 = 1
            · simp [h]
            · have h0 : V % 2 = 0 := by omega
              simp [h0]
          have HVN := Lib.hid hVn
          have HNN := Lib.hid hn
          have hsrc := (SlAt.ofOwn (hown.alloc (.cells #[.int .i64 (y : Int)] 3))).src (P := Tryd.prog) Tryd.underlying26 (ints_one _)
          rw [ints_length, bitsN_length] at hsrc
          have hlit : (wr.alloc (.cells #[.int .i64 (y : Int)] 3)).ownsRow w.heap.size 3 1 (.slice (some ⟨wr.heap.size, 0, none⟩) 1 1) 1 [.int .i64 (y : Int)] := World.ownsRow_lit wr #[.int .i64 (y : Int)] 1 hk.size (by unfold maxLen; omega) rfl
          have HD := Lib.hid hd
          have hdi : (i : Int) < (n : Int) := by omega
          have hdib : decide (i < n) = true := decide_eq_true hd
          clear hV hy hV2 hVn hn hd hVx
          go_wp2_with (at_builtin; refine wpList_append_src _ rfl (.tmp 22) (.tmp 23) 26 26 rfl w.heap.size 3 i0 (.int .i64 0) 1 8 Tryd.underlying26 hi hz0 hz1 hz2 rfl (.slice (some ⟨wr.heap.size, 0, none⟩) 1 1) 1 [.int .i64 (y : Int)] rfl hlit u6 i (ints (bitsN x i)) rfl hsrc ?c1 ?c2 ?c3 ?_)
          case c1 => unfold maxLen; omega
          case c2 => omega
          case c3 => have := hk.size; simp; omega
          intro v2 w2 hown2 hg _ hat
          rw [HNN.out, Nat.add_comm] at hown2
          have hk2 := own_kept (hk.alloc (.cells #[.int .i64 (y : Int)] 3)) (Kept.refl _ _) hlit hg
          clear hg hat hown hsrc hlit
          go_wp2
          go_roundg (n - (i + 1))
          case measure => have := HD.out; omega
          case rel => exact ⟨i + 1, HD.out, rfl, by go_num, by rw [HVN.out], hown2, hk2⟩
        · obtain rfl : i = n := by omega
          have hfin : ∀ b, b = decide (V = 0) → RowOf w x i (.returned (.tuple #[u6, .bool b])) wr := fun b hb => HR.out _ _ ⟨u6, by rw [hb, hV], hown, hk⟩
          have HF := Lib.hid hfin
          have hv0 : ((V : Int) == 0) = decide (V = 0) := by
            rw [Bool.eq_iff_iff]; simp
          clear hV hfin hown hVx
          go_wp2
          go_ret2
          exact HF.out _ (by simp)
end Go.Proofs.YtjpnfadmblmjbaaDoor
/- package limnographref06: Small. -/
namespace Go.Proofs.YtjpnfadmblmjbaaDoor
open Go.RowKit
attribute [local go_sem ↓] Go.wp_at_zero Go.wp_at_succ

theorem row_of (x n : Nat) (hn : n ≤ 64) (hx : x < 18446744073709551616) (w : World) :
    Calls Tryd.prog 51 #[.int .u64 x, .int .i64 n] w fun e w' => ∃ a c b, e = .returned (.tuple #[.slice a n c, .bool b]) ∧ w'.ownsRow w.heap.size 3 1 (.slice a n c) n (ints (bitsN x n)) ∧ Kept (fun _ => False) w w' := by
  refine (refRow_any x n hx w).mono ?_
  intro e w' h
  unfold RowOf at h
  rw [if_pos ⟨by omega, by omega⟩, Int.toNat_natCast] at h
  obtain ⟨v, rfl, ho, hk⟩ := h
  obtain ⟨a, c, rfl⟩ := ownsRow_slice ho
  exact ⟨a, c, _, rfl, ho, hk⟩

set_option maxHeartbeats 2000000 in
theorem small_any (v : Nat) (hv : v < 18446744073709551616) (w : World) :
    Calls Tryd.prog 14 #[.int .u64 v] w fun e w' => ∃ vs, e = .returned vs ∧ w'.ownsRow w.heap.size 3 1 vs (smallB v).length (ints (smallB v)) ∧ Kept (fun _ => False) w w' := by
  obtain ⟨iI, hiI, hzI0, hzI1, hzI2⟩ := info_parts Tryd.infoInt
  have hc := classN_le v
  have hsz : sizeC.getD (classN v) 0 ≤ 64 := by
    have hcc : classN v = 0 ∨ classN v = 1 ∨ classN v = 2 ∨ classN v = 3 := by omega
    rcases hcc with h | h | h | h <;> rw [h] <;> decide
  have HC := Lib.hid (refClass_any v hv w)
  have HZ := Lib.hid (refSize_any (classN v) hc)
  have HS : Hid (smallB v = bitsN (classN v) 2 ++ bitsN v (sizeC.getD (classN v) 0)) := Lib.hid rfl
  obtain ⟨C, hCe⟩ : ∃ C, C = classN v := ⟨_, rfl⟩
  rw [← hCe] at HC HZ HS hc hsz
  obtain ⟨S, hSe⟩ : ∃ S, S = sizeC.getD C 0 := ⟨_, rfl⟩
  rw [← hSe] at HZ HS hsz
  have HR1 := Lib.hid (row_of C 2 (by omega) (by omega))
  have HR2 := Lib.hid (row_of v S hsz hv)
  have e1 : IntKind.u64.wrap (C : Int) = (C : Int) := by rw [IntKind.wrap_u64]; omega
  clear hCe hSe
  go_enter Tryd.func14, Tryd.ntmps14
  go_wp2_with (first
    | (go_at_call 50; refine HC.out.mono ?_; rintro e w1 ⟨rfl, hk⟩; have H1 := Lib.hid hk; clear hk)
    | (go_at_call_of 51 C; refine (HR1.out _).mono ?_; rintro e w2 ⟨a2, c2, b2, rfl, ho, hk⟩; have H2 := Lib.hid (H1.out.trans hk); have O2 := Lib.hid (show w2.ownsRow w.heap.size 3 1 (.slice a2 2 c2) 2 (ints (bitsN C 2)) from by rcases ho.2 with h0 | ⟨g, cap, cur, e, hg, rest⟩; exact ⟨ho.1, .inl h0⟩; exact ⟨ho.1, .inr ⟨g, cap, cur, e, Nat.le_trans H1.out.size hg, rest⟩⟩); clear ho hk)
    | (go_at_call 52; refine (HZ.out _).mono ?_; rintro e w3 ⟨rfl, hk⟩; have H3 := Lib.hid (H2.out.trans hk); have O3 := Lib.hid (hk.owns O2.out (fun _ _ x => x)); clear hk)
    | (go_at_call_of 51 S; refine (HR2.out _).mono ?_; rintro e w4 ⟨a4, c4, b4, rfl, ho, hk⟩; have H4 := Lib.hid (H3.out.trans hk); have O4 := Lib.hid (hk.owns O3.out (fun _ _ x => x)); have R4 := Lib.hid (SlAt.ofOwn ho); clear ho hk)
    | (at_builtin; refine wpList_append_src _ rfl (.tmp 23) (.tmp 24) 26 26 rfl w.heap.size 3 iI (.int .i64 0) 1 8 Tryd.underlying26 hiI hzI0 hzI1 hzI2 rfl (.slice a2 2 c2) 2 (ints (bitsN C 2)) rfl O4.out (.slice a4 S c4) S (ints (bitsN v S)) rfl ?cs ?c1 ?c2 ?c3 ?_))
  case cs => have := R4.out.src (P := Tryd.prog) Tryd.underlying26 (ints_one _); rw [ints_length, bitsN_length] at this; exact this
  case c1 => unfold maxLen; omega
  case c2 => omega
  case c3 => exact H4.out.size
  intro vs w5 hown hg _ hat
  have HF : w5.ownsRow w.heap.size 3 1 vs (smallB v).length (ints (smallB v)) ∧ Kept (fun _ => False) w w5 := by
    refine ⟨?_, H4.out.grown hg (fun k e hlt => by have := (ownsRow_lt O4.out e).2; omega)⟩
    rw [HS.out, List.length_append, bitsN_length, bitsN_length]
    simpa [ints] using hown
  have HFF := Lib.hid HF
  clear HF hown hg hat
  go_wp2
  go_ret
  exact ⟨_, rfl, HFF.out⟩
end Go.Proofs.YtjpnfadmblmjbaaDoor
/- package vary: the row of numbers in memory; NewRow, Len, goOn. -/
namespace Go.Proofs.YtjpnfadmblmjbaaDoor
open Go.RowKit
attribute [local go_sem ↓] Go.wp_at_zero Go.wp_at_succ

/-- The row behind the pointer to block r has n numbers, the last one, and the step to it. -/
def RowBox (w : World) (r : Nat) (n last step : Int) : Prop := w.heap[r]? = some (.cells #[.int .i64 n, .int .i64 last, .int .i64 step] 93 (0, 0))
/-- A difference modulo 2^64, as a signed number. -/
def diffI (a b : Int) : Int := wrap64 (a - b)

set_option maxHeartbeats 400000 in
theorem newRow_any (w : World) :
    Calls Tryd.prog 26 #[] w fun e w' => e = .returned (.pointer (some ⟨w.heap.size, 0, none⟩)) ∧ RowBox w' w.heap.size 0 0 0 ∧ Kept (fun _ => False) w w' := by
  go_enter Tryd.func26, Tryd.ntmps26
  go_wp2
  go_ret
  exact ⟨rfl, heap_alloc_new w _, (Kept.refl _ _).alloc _⟩

set_option maxHeartbeats 400000 in
theorem rowLen_any (r : Nat) (n last step : Int) (w : World) (HR : RowBox w r n last step) :
    Calls Tryd.prog 29 #[.pointer (some ⟨r, 0, none⟩)] w fun e w' => e = .returned (.int .i64 n) ∧ w = w' := by
  have hc : w.cell? ⟨r, 0, none⟩ = some (.int .i64 n) := by rw [cell_of_row _ _ 0 _ _ _ HR]; rfl
  go_enter Tryd.func29, Tryd.ntmps29
  go_wp2
  go_ret
  exact ⟨rfl, rfl⟩
end Go.Proofs.YtjpnfadmblmjbaaDoor
/- package vary: goOn, Clone, cut, way. -/
namespace Go.Proofs.YtjpnfadmblmjbaaDoor
open Go.RowKit
attribute [local go_sem ↓] Go.wp_at_zero Go.wp_at_succ

theorem RowBox.c {w : World} {r : Nat} {n last step : Int} (h : RowBox w r n last step) : w.cell? ⟨r, 0, none⟩ = some (.int .i64 n) ∧ w.cell? ⟨r, 1, none⟩ = some (.int .i64 last) ∧ w.cell? ⟨r, 2, none⟩ = some (.int .i64 step) := by
  refine ⟨?_, ?_, ?_⟩
  · rw [cell_of_row _ _ 0 _ _ _ h]; rfl
  · rw [cell_of_row _ _ 1 _ _ _ h]; rfl
  · rw [cell_of_row _ _ 2 _ _ _ h]; rfl
theorem RowBox.free {w : World} {r : Nat} {n last step : Int} (h : RowBox w r n last step) (j : Nat) : w.frozen? ⟨r, j, none⟩ = false := by
  unfold RowBox at h; simp [World.frozen?, h]
theorem RowBox.lt {w : World} {r : Nat} {n last step : Int} (h : RowBox w r n last step) : r < w.heap.size := (Array.getElem?_eq_some_iff.1 h).1
theorem RowBox.kept {S : Nat → Prop} {w w' : World} {r : Nat} {n last step : Int} (h : RowBox w r n last step) (hk : Kept S w w') (hn : ¬ S r) : RowBox w' r n last step := hk.same h hn
theorem RowBox.set0 {w : World} {r : Nat} {n last step : Int} (h : RowBox w r n last step) (x : Int) : RowBox (w.setCell ⟨r, 0, none⟩ (.int .i64 x)) r x last step := by
  unfold RowBox at *; simp [World.setCell, Array.getElem?_modify, h]
theorem RowBox.set1 {w : World} {r : Nat} {n last step : Int} (h : RowBox w r n last step) (x : Int) : RowBox (w.setCell ⟨r, 1, none⟩ (.int .i64 x)) r n x step := by
  unfold RowBox at *; simp [World.setCell, Array.getElem?_modify, h]
theorem RowBox.set2 {w : World} {r : Nat} {n last step : Int} (h : RowBox w r n last step) (x : Int) : RowBox (w.setCell ⟨r, 2, none⟩ (.int .i64 x)) r n last x := by
  unfold RowBox at *; simp [World.setCell, Array.getElem?_modify, h]

theorem RowBox.upd3 {w : World} {r : Nat} {n last step : Int} (h : RowBox w r n last step) (a b c : Int) :
    RowBox (((w.setCell ⟨r, 2, none⟩ (.int .i64 c)).setCell ⟨r, 1, none⟩ (.int .i64 b)).setCell ⟨r, 0, none⟩ (.int .i64 a)) r a b c ∧ Kept (fun k => k = r) w (((w.setCell ⟨r, 2, none⟩ (.int .i64 c)).setCell ⟨r, 1, none⟩ (.int .i64 b)).setCell ⟨r, 0, none⟩ (.int .i64 a)) :=
  ⟨((h.set2 c).set1 b).set0 a, (((Kept.refl (fun k => k = r) w).setCell (p := ⟨r, 2, none⟩) (fun _ => rfl) _).setCell (p := ⟨r, 1, none⟩) (fun _ => rfl) _).setCell (p := ⟨r, 0, none⟩) (fun _ => rfl) _⟩
theorem RowBox.upd2 {w : World} {r : Nat} {n last step : Int} (h : RowBox w r n last step) (a b : Int) :
    RowBox ((w.setCell ⟨r, 1, none⟩ (.int .i64 b)).setCell ⟨r, 0, none⟩ (.int .i64 a)) r a b step ∧ Kept (fun k => k = r) w ((w.setCell ⟨r, 1, none⟩ (.int .i64 b)).setCell ⟨r, 0, none⟩ (.int .i64 a)) :=
  ⟨(h.set1 b).set0 a, ((Kept.refl (fun k => k = r) w).setCell (p := ⟨r, 1, none⟩) (fun _ => rfl) _).setCell (p := ⟨r, 0, none⟩) (fun _ => rfl) _⟩

/-- The step behind a number. -/
def stepOf (n last step v : Int) : Int := if 0 < n then diffI v last else step

set_option maxHeartbeats 400000 in
theorem goOn_any (r : Nat) (n last step v : Int) (w : World) (HR : RowBox w r n last step) (hn : 0 ≤ n) (hn2 : n ≤ 1000000000) :
    Calls Tryd.prog 59 #[.pointer (some ⟨r, 0, none⟩), .int .i64 v] w fun e w' => e = .returned (.tuple #[]) ∧ RowBox w' r (n + 1) v (stepOf n last step v) ∧ Kept (fun k => k = r) w w' := by
  obtain ⟨h0, h1, h2⟩ := HR.c
  have f0 := HR.free 0
  have f1 := HR.free 1
  have f2 := HR.free 2
  have nw : IntKind.i64.wrap (n + 1) = n + 1 := IntWalk.i64_in _ ⟨by omega, by omega⟩
  by_cases hp : 0 < n
  · have e : wrap64 (v - last) = stepOf n last step v := (if_pos hp).symm
    have F := Lib.hid (HR.upd3 (n + 1) v (stepOf n last step v))
    rw [← e] at F ⊢
    clear HR e
    go_enter Tryd.func59, Tryd.ntmps59
    go_wp2
    go_end0
    exact ⟨rfl, F.out⟩
  · have e : stepOf n last step v = step := if_neg hp
    have F := Lib.hid (HR.upd2 (n + 1) v)
    rw [e]
    clear HR e
    go_enter Tryd.func59, Tryd.ntmps59
    go_wp2
    go_end0
    exact ⟨rfl, F.out⟩

set_option maxHeartbeats 400000 in
theorem rowClone_any (r : Nat) (n last step : Int) (w : World) (HR : RowBox w r n last step) :
    Calls Tryd.prog 27 #[.pointer (some ⟨r, 0, none⟩)] w fun e w' => ∃ q, w.heap.size ≤ q ∧ e = .returned (.pointer (some ⟨q, 0, none⟩)) ∧ RowBox w' q n last step ∧ Kept (fun _ => False) w w' := by
  obtain ⟨h0, h1, h2⟩ := HR.c
  clear HR
  go_enter Tryd.func27, Tryd.ntmps27
  go_wp2
  go_ret
  exact ⟨_, Nat.le_refl _, rfl, heap_alloc_new w _, (Kept.refl _ _).alloc _⟩

/-- How many bits a way has behind it. -/
def widthW : List Nat := [0, 6, 10, 16, 64]
/-- The least way of a difference. -/
def wayN (d : Int) : Nat := if d = 0 then 0 else if -32 ≤ d ∧ d < 32 then 1 else if -512 ≤ d ∧ d < 512 then 2 else if -32768 ≤ d ∧ d < 32768 then 3 else 4
theorem wayN_le (d : Int) : wayN d ≤ 4 := by unfold wayN; split; omega; split; omega; split; omega; split <;> omega
/-- The signed number that the lowest bits of a number tell. -/
def cutI (v b : Nat) : Int := if b = 0 then 0 else if v % 2 ^ b < 2 ^ (b - 1) then ((v % 2 ^ b : Nat) : Int) else ((v % 2 ^ b : Nat) : Int) - ((2 ^ b : Nat) : Int)

set_option maxHeartbeats 400000 in
theorem cut_any (v : Nat) (hv : v < 18446744073709551616) (b : Nat) (hb : b = 0 ∨ b = 6 ∨ b = 10 ∨ b = 16 ∨ b = 64) (w : World) :
    Calls Tryd.prog 94 #[.int .u64 v, .int .i64 b] w fun e w' => e = .returned (.int .i64 (cutI v b)) ∧ w = w' := by
  have h0 : (0 : Int) ≤ (v : Int) := by omega
  rcases hb with rfl | rfl | rfl | rfl | rfl
  · go_enter Tryd.func94, Tryd.ntmps94
    go_wp2
    go_ret
    exact ⟨rfl, rfl⟩
  all_goals
    go_enter Tryd.func94, Tryd.ntmps94
    go_wp2
    go_ret
    refine ⟨ret_int ?_, rfl⟩
    unfold cutI
    rw [if_neg (by omega)]
    simp only [IntKind.wrap_u64, wrap64, Nat.reducePow, Nat.reduceSub]
    split <;> omega
end Go.Proofs.YtjpnfadmblmjbaaDoor
/- package vary: way, putWay. -/
namespace Go.Proofs.YtjpnfadmblmjbaaDoor
open Go.RowKit
attribute [local go_sem ↓] Go.wp_at_zero Go.wp_at_succ

theorem wayN_cases (d : Int) : (wayN d = 0 ∧ d = 0) ∨ (wayN d = 1 ∧ d ≠ 0 ∧ -32 ≤ d ∧ d < 32) ∨ (wayN d = 2 ∧ ¬ (-32 ≤ d ∧ d < 32) ∧ -512 ≤ d ∧ d < 512) ∨ (wayN d = 3 ∧ ¬ (-512 ≤ d ∧ d < 512) ∧ -32768 ≤ d ∧ d < 32768) ∨ (wayN d = 4 ∧ ¬ (-32768 ≤ d ∧ d < 32768)) := by
  unfold wayN
  by_cases h0 : d = 0
  · rw [if_pos h0]; omega
  · rw [if_neg h0]
    by_cases h1 : -32 ≤ d ∧ d < 32
    · rw [if_pos h1]; omega
    · rw [if_neg h1]
      by_cases h2 : -512 ≤ d ∧ d < 512
      · rw [if_pos h2]; omega
      · rw [if_neg h2]
        by_cases h3 : -32768 ≤ d ∧ d < 32768
        · rw [if_pos h3]; omega
        · rw [if_neg h3]; omega
theorem cut_fits (d : Int) (h0 : -9223372036854775808 ≤ d) (h1 : d ≤ 9223372036854775807) :
    (cutI (uN d) 6 = d ↔ -32 ≤ d ∧ d < 32) ∧ (cutI (uN d) 10 = d ↔ -512 ≤ d ∧ d < 512) ∧ (cutI (uN d) 16 = d ↔ -32768 ≤ d ∧ d < 32768) ∧ cutI (uN d) 64 = d := by
  have hu := uN_u64 d
  rw [IntKind.wrap_u64] at hu
  generalize uN d = U at *
  refine ⟨?_, ?_, ?_, ?_⟩
  all_goals
    unfold cutI
    rw [if_neg (by omega)]
    simp only [Nat.reducePow, Nat.reduceSub]
    split <;> omega
/-- Which way serves a difference. -/
theorem cut_way (d : Int) (h0 : -9223372036854775808 ≤ d) (h1 : d ≤ 9223372036854775807) (k : Nat) (hk : k < 4) (hl : k ≤ wayN d) : (cutI (uN d) (widthW.getD k 0) != d) = decide (k < wayN d) := by
  have hkk : k = 0 ∨ k = 1 ∨ k = 2 ∨ k = 3 := by omega
  have hw := wayN_cases d
  obtain ⟨f1, f2, f3, _⟩ := cut_fits d h0 h1
  rw [Bool.eq_iff_iff, bne_iff_ne, decide_eq_true_iff]
  rcases hkk with rfl | rfl | rfl | rfl
  · show (0 : Int) ≠ d ↔ _
    omega
  · show cutI (uN d) 6 ≠ d ↔ _
    rw [Ne, f1]; omega
  · show cutI (uN d) 10 ≠ d ↔ _
    rw [Ne, f2]; omega
  · show cutI (uN d) 16 ≠ d ↔ _
    rw [Ne, f3]; omega

/-- The program's table of the ways. -/
def WayTab (w : World) : Prop := ∀ j, j < 5 → w.cell? ⟨1, j, none⟩ = some (.int .i64 ((widthW.getD j 0 : Nat) : Int))
theorem WayTab.kept {w w' : World} (h : WayTab w) (hk : Kept (fun _ => False) w w') : WayTab w' := fun j hj => hk.cell (h j hj) fun x => x
theorem width_cases (k : Nat) (hk : k < 5) : widthW.getD k 0 = 0 ∨ widthW.getD k 0 = 6 ∨ widthW.getD k 0 = 10 ∨ widthW.getD k 0 = 16 ∨ widthW.getD k 0 = 64 := by
  have : k = 0 ∨ k = 1 ∨ k = 2 ∨ k = 3 ∨ k = 4 := by omega
  rcases this with rfl | rfl | rfl | rfl | rfl <;> simp [widthW]

set_option maxHeartbeats 1000000 in
theorem way_any (d : Int) (h0 : -9223372036854775808 ≤ d) (h1 : d ≤ 9223372036854775807) (w : World) (HT : WayTab w) :
    Calls Tryd.prog 82 #[.int .i64 d] w fun e w' => e = .returned (.int .i64 ((wayN d : Nat) : Int)) ∧ w = w' := by
  have HU := uN_u64 d
  have hul := uN_lt d
  have HW := Lib.hid (cut_way d h0 h1)
  have HT' := Lib.hid HT
  have hle := wayN_le d
  obtain ⟨U, hU⟩ : ∃ U, U = uN d := ⟨_, rfl⟩
  obtain ⟨K, hK⟩ : ∃ K, K = wayN d := ⟨_, rfl⟩
  rw [← hU] at HU hul HW
  rw [← hK] at HW hle ⊢
  clear hU hK HT
  go_enter Tryd.func82, Tryd.ntmps82
  go_wp2
  go_loopw [3] (fun t wr => ∃ c : Nat, c ≤ K ∧ t = .int .i64 c ∧ w = wr) (fun t _ => 4 - (intOf t).toNat)
  case atStart => exact ⟨0, by omega, rfl, rfl⟩
  case round =>
    obtain ⟨c, hc, rfl, rfl⟩ := hrel
    by_cases h4 : c < 4
    · have hcell := HT'.out c (by omega)
      have hcc := width_cases c (by omega)
      have hq := HW.out c h4 hc
      obtain ⟨S, hS⟩ : ∃ S, S = widthW.getD c 0 := ⟨_, rfl⟩
      rw [← hS] at hcell hcc hq
      obtain ⟨X, hX⟩ : ∃ X, X = cutI U S := ⟨_, rfl⟩
      rw [← hX] at hq
      have HC := cut_any U hul S hcc w
      rw [← hX] at HC
      have HCC := Lib.hid HC
      have c4 : (c : Int) < 4 := by omega
      have c0 : (0 : Int) ≤ (c : Int) := by omega
      clear hS hX HC hcc
      by_cases hlt : c < K
      · have hq2 : (X != d) = true := by rw [hq]; exact decide_eq_true hlt
        have HL := Lib.hid hlt
        clear hq hlt hc
        go_wp2_with (go_at_call 94; refine HCC.out.mono ?_; rintro e w' ⟨rfl, rfl⟩)
        go_roundw
        case rel => exact ⟨c + 1, HL.out, by go_num, trivial⟩
        case measure => simp [intOf]; omega
      · have hq2 : (X != d) = false := by rw [hq]; exact decide_eq_false hlt
        have hcK : c = K := by omega
        have HL := Lib.hid hcK
        clear hq hlt hc hcK
        go_wp2_with (go_at_call 94; refine HCC.out.mono ?_; rintro e w' ⟨rfl, rfl⟩)
        go_ret
        exact ⟨by rw [HL.out]; rfl, rfl⟩
    · have hc4 : c = 4 := by omega
      have hK4 : K = 4 := by omega
      subst hc4
      have HL := Lib.hid hK4
      clear hK4 hc hle
      go_wp2
      go_ret
      exact ⟨by rw [HL.out]; rfl, rfl⟩

/-- A difference's bits in its way. -/
def stepB (d : Int) : List Bool := List.replicate (wayN d) true ++ (if wayN d < 4 then [false] else []) ++ bitsN (uN d) (widthW.getD (wayN d) 0)
theorem BwTo.low {w w' : World} {B p : Nat} {v : Value} {bs bs2 : List Bool} (hW : BwAt w B p v bs) (h2 : BwTo w w' B p v bs2) {a : Addr} {x : Value} (ha : a.block < B) (hc : w.cell? a = some x) : w'.cell? a = some x := by
  obtain ⟨v2, _, _, hk⟩ := h2
  refine hk.cell hc ?_
  rintro (e | e)
  · have := hW.base; omega
  · have := (ownsRow_lt hW.owns e).2; omega
theorem WayTab.bw {w w' : World} {B p : Nat} {v : Value} {bs bs2 : List Bool} (h : WayTab w) (hW : BwAt w B p v bs) (hB : 1 < B) (h2 : BwTo w w' B p v bs2) : WayTab w' :=
  fun j hj => h2.low hW hB (h j hj)

theorem shl_shr (U S D : Nat) (hS : S + D = 64) : IntKind.u64.wrap ((U : Int) * 2 ^ D) / 2 ^ D = ((U % 2 ^ S : Nat) : Int) := by
  have e : (2 : Nat) ^ 64 = 2 ^ S * 2 ^ D := by rw [← hS, Nat.pow_add]
  have h1 : (U : Int) * 2 ^ D = ((U * 2 ^ D : Nat) : Int) := by simp
  have h2 : U * 2 ^ D % 2 ^ 64 = U % 2 ^ S * 2 ^ D := by rw [e, Nat.mul_mod_mul_right]
  have h4 : (2 : Nat) ^ 64 = 18446744073709551616 := by decide
  rw [h4] at h2
  rw [h1, IntKind.wrap_u64]
  have h3 : ((U * 2 ^ D : Nat) : Int) % 18446744073709551616 = ((U * 2 ^ D % 18446744073709551616 : Nat) : Int) := by omega
  rw [h3, h2]
  have h5 : (2 : Int) ^ D = ((2 ^ D : Nat) : Int) := by simp
  rw [h5, ← Int.natCast_ediv, Nat.mul_div_cancel _ (Nat.two_pow_pos D)]
theorem bitsN_01 : bitsN 0 1 = [false] := rfl
set_option maxHeartbeats 2000000 in
set_option maxRecDepth 100000 in
theorem putWay_any (B p : Nat) (v : Value) (bs : List Bool) (d : Int) (w : World) (HW : BwAt w B p v bs) (hB0 : 1 < B) (hB : B ≤ w.heap.size) (h0 : -9223372036854775808 ≤ d) (h1 : d ≤ 9223372036854775807) (hl : bs.length ≤ 900000000) (HT : WayTab w) :
    Calls Tryd.prog 58 #[.pointer (some ⟨p, 0, none⟩), .int .i64 d] w fun e w' => e = .returned (.tuple #[]) ∧ BwTo w w' B p v (bs ++ stepB d) := by
  have HU := uN_u64 d
  have hul := uN_lt d
  have hle := wayN_le d
  have HWAY := Lib.hid (way_any d h0 h1 w HT)
  have HS : Hid (stepB d = List.replicate (wayN d) true ++ (if wayN d < 4 then [false] else []) ++ bitsN (uN d) (widthW.getD (wayN d) 0)) := Lib.hid rfl
  obtain ⟨U, hU⟩ : ∃ U, U = uN d := ⟨_, rfl⟩
  obtain ⟨K, hK⟩ : ∃ K, K = wayN d := ⟨_, rfl⟩
  rw [← hU] at HU hul HS
  rw [← hK] at HWAY hle HS
  have HT' := Lib.hid HT
  have HW' := Lib.hid HW
  have hst : BwTo w w B p v (bs ++ List.replicate 0 true) := by simpa using HW.to
  have hsc := width_cases K (by omega)
  obtain ⟨S, hS⟩ : ∃ S, S = widthW.getD K 0 := ⟨_, rfl⟩
  rw [← hS] at HS hsc
  obtain ⟨D, hD⟩ : ∃ D, D = 64 - S := ⟨_, rfl⟩
  have hS64 : S ≤ 64 := by omega
  have d1 : 64 - (S : Int) = (D : Int) := by omega
  have d2 : IntKind.i64.wrap (64 - (S : Int)) = (D : Int) := by rw [d1]; exact IntWalk.i64_in _ ⟨by omega, by omega⟩
  have d0 : (0 : Int) ≤ (D : Int) := by omega
  have hsh := shl_shr U S D (by omega)
  obtain ⟨X, hX⟩ : ∃ X, X = U % 2 ^ S := ⟨_, rfl⟩
  rw [← hX] at hsh
  have hXl : X < 2 ^ S := by rw [hX]; exact Nat.mod_lt _ (Nat.two_pow_pos S)
  have hXb : bitsN X S = bitsN U S := by rw [hX, bitsN_mod]
  have HXL := Lib.hid hXl
  have HXB := Lib.hid hXb
  have HSE := Lib.hid hS
  clear hU hK HT HW hS hD hX hXl hXb hsc
  go_enter Tryd.func58, Tryd.ntmps58
  go_wp2_with (go_at_call 82; refine HWAY.out.mono ?_; rintro e w' ⟨rfl, rfl⟩)
  go_loopg [9] K (fun g i wr => ∃ m : Nat, m ≤ K ∧ g = K - m ∧ i = .int .i64 m ∧ BwTo w wr B p v (bs ++ List.replicate m true))
  case atStart => exact ⟨0, Nat.zero_le _, rfl, rfl, hst⟩
  case round =>
    obtain ⟨m, hm, rfl, rfl, hto⟩ := hrel
    clear hst
    have htab := HT'.out.bw HW'.out hB0 hto
    have hcell := htab K (by omega)
    rw [← HSE.out] at hcell
    obtain ⟨v1, HW1, hsz1, back⟩ := hto.part
    have HTO := Lib.hid hto
    have HWW := Lib.hid HW1
    have HB1 := Lib.hid (Nat.le_trans hB hsz1)
    have HTB := Lib.hid htab
    clear hto HW1 htab
    by_cases hd : m < K
    · have hdi : (m : Int) < (K : Int) := by omega
      have HD := Lib.hid hd
      clear hd
      go_wp2_with (go_at_call 48; refine (bput_yes B p v1 _ 1 1 _ HWW.out HB1.out (by omega) (by omega) (by simp; omega)).mono ?_; rintro e w1 ⟨rfl, hto⟩; have HTO2 := Lib.hid (back.out _ _ hto); clear hto)
      go_roundg (K - (m + 1))
      case measure => have := HD.out; omega
      case rel => exact ⟨m + 1, HD.out, rfl, by go_num, by have := HTO2.out; rw [List.append_assoc] at this; rw [List.replicate_succ']; exact this⟩
    · have hmK : m = K := by omega
      subst hmK
      have c0 : (0 : Int) ≤ (m : Int) := by omega
      have c5 : (m : Int) < 5 := by omega
      clear hd
      by_cases hlt : m < 4
      · have HQ := Lib.hid (show stepB d = List.replicate m true ++ [false] ++ bitsN U S from by rw [HS.out, if_pos hlt])
        have q1 : (m : Int) < 4 := by omega
        have q2 : decide (m < 4) = true := decide_eq_true hlt
        clear hlt hm
        go_wp2_with (first
          | (go_at_call_of 48 X; refine (bput_yes B p v2 _ X S _ HW2.out (Nat.le_trans HB1.out HSZ2.out) hS64 HXL.out (by simp; omega)).mono ?_; rintro e w3 ⟨rfl, hto⟩; have HTO3 := Lib.hid (back.out _ _ (hcomp.out _ _ hto)); clear hto)
          | (go_at_call 48; refine (bput_yes B p v1 _ 0 1 _ HWW.out HB1.out (by omega) (by omega) (by simp; omega)).mono ?_; rintro e w2 ⟨rfl, hto⟩; have hcell2 := hto.low HWW.out hB0 hcell; obtain ⟨v2, hw2, hsz2, hcomp⟩ := hto.part; have HW2 := Lib.hid hw2; have HSZ2 := Lib.hid hsz2; clear hto hw2 hsz2))
        go_end0
        refine ⟨rfl, ?_⟩
        have := HTO3.out
        rw [HXB.out, bitsN_01] at this
        rw [HQ.out]
        simpa using this
      · have HQ := Lib.hid (show stepB d = List.replicate m true ++ bitsN U S from by rw [HS.out, if_neg hlt, List.append_nil])
        have q1 : ¬ (m : Int) < 4 := by omega
        have q2 : decide (m < 4) = false := decide_eq_false hlt
        clear hlt hm
        go_wp2_with (go_at_call_of 48 X; refine (bput_yes B p v1 _ X S _ HWW.out HB1.out hS64 HXL.out (by simp; omega)).mono ?_; rintro e w3 ⟨rfl, hto⟩; have HTO3 := Lib.hid (back.out _ _ hto); clear hto)
        go_end0
        refine ⟨rfl, ?_⟩
        have := HTO3.out
        rw [HXB.out] at this
        rw [HQ.out]
        simpa using this
end Go.Proofs.YtjpnfadmblmjbaaDoor
/- package vary: Row.Put. package limnographref06: Way, Step. -/
namespace Go.Proofs.YtjpnfadmblmjbaaDoor
open Go.RowKit
attribute [local go_sem ↓] Go.wp_at_zero Go.wp_at_succ

theorem wpList_mineI {ops : Array Oper} {rest : List Oper} {o : Oper} {a : Act} {Q : Exit → Act → World → Prop} {w : World} (hgd : o.guard = none) (s x : Operand)
    (ho : o.op = .call { callee := .builtin .append, args := #[s, x], argTypes := #[26, 26] })
    (W : World) (v : Value) (xs : List Value) (hv : a.eval s = v) (hm : Mine W w 3 v xs)
    (y : Value) (news : List Value) (hy : a.eval x = y) (hs : Src Tryd.prog 1 26 y news.length news w)
    (hl : xs.length + news.length ≤ 1000000000000)
    (h : ∀ v' w', Mine W w' 3 v' (xs ++ news) → wpList Tryd.prog ops Q rest (a.put o.dst v') w') : wpList Tryd.prog ops Q (o :: rest) a w := by
  obtain ⟨iI, hiI, hzI0, hzI1, hzI2⟩ := info_parts Tryd.infoInt
  exact wpList_mine hgd s x _ _ ho 3 iI (.int .i64 0) 8 Tryd.underlying26 hiI hzI0 hzI1 hzI2 rfl (by omega) W v xs hv hm y news hy hs hl h
theorem src_oneI (w : World) (u : Value) (hu : u.oneCell' = true) : Src Tryd.prog 1 26 (.slice (some ⟨w.heap.size, 0, none⟩) 1 1) ([u] : List Value).length [u] (w.alloc (.cells #[u] 3)) := src_one w Tryd.underlying26 u hu
theorem Mine.srcI {W w w' : World} {v : Value} {l : List Bool} (h : Mine W w 3 v (ints l)) (hk : Kept (fun _ => False) w w') : Src Tryd.prog 1 26 v (ints l).length (ints l) w' :=
  (h.on hk).at_.src Tryd.underlying26 (ints_one _)

/-- A signed number as one that isn't. -/
def zigN (a : Int) : Nat := (zigI a).toNat
theorem zigN_eq (a : Int) (h0 : -9223372036854775808 ≤ a) (h1 : a ≤ 9223372036854775807) : zigI a = ((zigN a : Nat) : Int) ∧ zigN a < 18446744073709551616 := by
  have := zigI_range a h0 h1; unfold zigN; omega
theorem diffI_range (a b : Int) : -9223372036854775808 ≤ diffI a b ∧ diffI a b ≤ 9223372036854775807 := by unfold diffI wrap64; omega
/-- The bits of the next number. -/
def nextB (n last step v : Int) : List Bool := if n = 0 then smallB (zigN v) else if n = 1 then smallB (zigN (diffI v last)) else stepB (diffI (diffI v last) step)

/-- Both tables. -/
structure Tabs (w : World) : Prop where
  c : ClassTab w
  y : WayTab w
theorem Tabs.kept {w w' : World} (h : Tabs w) (hk : Kept (fun _ => False) w w') : Tabs w' := ⟨h.c.kept hk, h.y.kept hk⟩
theorem Tabs.bw {w w' : World} {B p : Nat} {v : Value} {bs bs2 : List Bool} (h : Tabs w) (hW : BwAt w B p v bs) (hB : 1 < B) (h2 : BwTo w w' B p v bs2) : Tabs w' := ⟨h.c.bw hW (by omega) h2, h.y.bw hW hB h2⟩
/-- What putting a number into a row leaves: r is the row's block, p the writer's. -/
def RowPut (w : World) (B p r : Nat) (v : Value) (bs : List Bool) (n last step x : Int) (e : Ending) (w' : World) : Prop :=
  e = .returned (.tuple #[]) ∧ RowBox w' r (n + 1) x (stepOf n last step x) ∧ ∃ v', BwAt w' B p v' (bs ++ nextB n last step x) ∧ (v'.ownBlock = v.ownBlock ∨ ∃ k, v'.ownBlock = some k ∧ w.heap.size ≤ k) ∧ Kept (fun k => k = p ∨ v.ownBlock = some k ∨ k = r) w w'

theorem rowPut_fin {w w1 w2 : World} {B p r : Nat} {v : Value} {bs : List Bool} {n last step x : Int} (HR : RowBox w r n last step) (hrp : r ≠ p) (hrv : v.ownBlock ≠ some r)
    (hto : BwTo w w1 B p v (bs ++ nextB n last step x)) (h2 : RowBox w2 r (n + 1) x (stepOf n last step x) ∧ Kept (fun k => k = r) w1 w2) : RowPut w B p r v bs n last step x (.returned (.tuple #[])) w2 := by
  obtain ⟨v1, h1, a1, k1⟩ := hto
  refine ⟨rfl, h2.1, v1, h1.kept h2.2 (fun e => hrp e.symm) ?_, a1, (k1.mono ?_).trans (h2.2.mono fun k _ e => .inr (.inr e))⟩
  · rintro k e rfl
    rcases a1 with a1 | ⟨g, e2, hg⟩
    · exact hrv (a1 ▸ e)
    · rw [e2] at e; cases e; have := HR.lt; omega
  · rintro k _ (h | h)
    · exact .inl h
    · exact .inr (.inl h)
theorem rowPut_mid {w w1 : World} {B p r : Nat} {v : Value} {bs : List Bool} {n last step : Int} (HR : RowBox w r n last step) (hrp : r ≠ p) (hrv : v.ownBlock ≠ some r) (hto : BwTo w w1 B p v bs) : RowBox w1 r n last step := by
  obtain ⟨v1, h1, a1, k1⟩ := hto
  exact HR.kept k1 (fun e => e.elim hrp hrv)

set_option maxHeartbeats 2000000 in
set_option maxRecDepth 100000 in
theorem rowPut_any (B p r : Nat) (v : Value) (bs : List Bool) (n last step x : Int) (w : World) (HW : BwAt w B p v bs) (hB0 : 1 < B) (hB : B ≤ w.heap.size) (HR : RowBox w r n last step) (hrp : r ≠ p) (hrv : v.ownBlock ≠ some r)
    (hn : 0 ≤ n) (hn2 : n ≤ 1000000) (h0 : -9223372036854775808 ≤ x) (h1 : x ≤ 9223372036854775807) (hl : bs.length ≤ 900000000) (HT : Tabs w) :
    Calls Tryd.prog 28 #[.pointer (some ⟨r, 0, none⟩), .pointer (some ⟨p, 0, none⟩), .int .i64 x] w (RowPut w B p r v bs n last step x) := by
  obtain ⟨c0, c1, c2⟩ := HR.c
  have HF := Lib.hid fun w1 w2 (hto : BwTo w w1 B p v (bs ++ nextB n last step x)) h2 => rowPut_fin (w2 := w2) HR hrp hrv hto h2
  have HM := Lib.hid fun w1 bs1 (hto : BwTo w w1 B p v bs1) => rowPut_mid HR hrp hrv hto
  have HG := Lib.hid fun w1 h => goOn_any r n last step x w1 h hn (by omega)
  by_cases hz : n = 0
  · subst hz
    have hb := Lib.hid (show nextB 0 last step x = smallB (zigN x) from if_pos rfl)
    obtain ⟨hz1, hz2⟩ := zigN_eq x h0 h1
    have HP := Lib.hid (varyPutInt_any B p v bs x _ w HW (by omega) hB h0 h1 hz1 hz2 hl HT.c)
    clear HW HT HR hz1 hz2
    go_enter Tryd.func28, Tryd.ntmps28
    go_wp2_with (first
      | (go_at_call 13; refine HP.out.mono ?_; rintro e w1 ⟨rfl, hto⟩; have HTO := Lib.hid hto; clear hto)
      | (go_at_call 59; refine (HG.out _ (HM.out _ _ HTO.out)).mono ?_; rintro e w2 ⟨rfl, h2⟩; have H2 := Lib.hid h2; clear h2))
    go_end0
    exact HF.out _ _ (by rw [hb.out]; exact HTO.out) H2.out
  · by_cases hz1 : n = 1
    · subst hz1
      have hb := Lib.hid (show nextB 1 last step x = smallB (zigN (diffI x last)) from rfl)
      obtain ⟨hd0, hd1⟩ := diffI_range x last
      obtain ⟨hz1, hz2⟩ := zigN_eq _ hd0 hd1
      have HP := Lib.hid (varyPutInt_any B p v bs _ _ w HW (by omega) hB hd0 hd1 hz1 hz2 hl HT.c)
      have hdf : wrap64 (x - last) = diffI x last := rfl
      obtain ⟨D, hD⟩ : ∃ D, D = diffI x last := ⟨_, rfl⟩
      rw [← hD] at HP hb hdf
      clear HW HT HR hz hz1 hz2 hd0 hd1 hD
      go_enter Tryd.func28, Tryd.ntmps28
      go_wp2_with (first
        | (go_at_call 13; refine HP.out.mono ?_; rintro e w1 ⟨rfl, hto⟩; have HTO := Lib.hid hto; clear hto)
        | (go_at_call 59; refine (HG.out _ (HM.out _ _ HTO.out)).mono ?_; rintro e w2 ⟨rfl, h2⟩; have H2 := Lib.hid h2; clear h2))
      go_end0
      exact HF.out _ _ (by rw [hb.out]; exact HTO.out) H2.out
    · have hb := Lib.hid (show nextB n last step x = stepB (diffI (diffI x last) step) from by unfold nextB; rw [if_neg hz, if_neg hz1])
      obtain ⟨hd0, hd1⟩ := diffI_range (diffI x last) step
      have q0 : (n == 0) = false := by simpa using hz
      have q1 : (n == 1) = false := by simpa using hz1
      have K : Kept (fun _ => False) w w.drew := (Kept.refl _ w).drew
      have HP := Lib.hid (putWay_any B p v bs _ w.drew (HW.keptF K) hB0 hB hd0 hd1 hl (HT.y.kept K))
      have hdf : IntKind.i64.wrap (x - last) = diffI x last := IntWalk.i64_left _
      obtain ⟨D, hD⟩ : ∃ D, D = diffI x last := ⟨_, rfl⟩
      rw [← hD] at HP hb hdf hd0 hd1
      have hdf2 : IntKind.i64.wrap (D - step) = diffI D step := IntWalk.i64_left _
      obtain ⟨D2, hD2⟩ : ∃ D2, D2 = diffI D step := ⟨_, rfl⟩
      rw [← hD2] at HP hb hdf2
      have hd : ∀ w2 l2, BwTo w.drew w2 B p v l2 → BwTo w w2 B p v l2 := by
        rintro w2 l2 ⟨v2, a, b, c⟩
        exact ⟨v2, a, b, ((Kept.refl _ w).drew).trans c⟩
      have HD := Lib.hid hd
      clear HW HT HR hz hz1 hd0 hd1 hD hD2 K hd
      go_enter Tryd.func28, Tryd.ntmps28
      go_wp2
      go_still_tail 12, (by kernel_rfl)
      change wpList _ _ _ _ _ w.drew
      go_wp2_with (first
        | (go_at_call 58; refine HP.out.mono ?_; rintro e w1 ⟨rfl, hto⟩; have HTO := Lib.hid (HD.out _ _ hto); clear hto)
        | (go_at_call 59; refine (HG.out _ (HM.out _ _ HTO.out)).mono ?_; rintro e w2 ⟨rfl, h2⟩; have H2 := Lib.hid h2; clear h2))
      go_end0
      exact HF.out _ _ (by rw [hb.out]; exact HTO.out) H2.out
end Go.Proofs.YtjpnfadmblmjbaaDoor
