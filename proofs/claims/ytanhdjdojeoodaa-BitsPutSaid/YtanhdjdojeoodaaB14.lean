/- package bitio: PutBits, Cut. -/
import Derived.Test.YtanhdjdojeoodaaB13
namespace Go.Proofs.Ytanhdjdojeoodaa
open Go.RowKit
attribute [local go_sem ↓] Go.wp_at_zero Go.wp_at_succ

theorem add_zero' (a : Addr) : a.add 0 = a := by unfold Addr.add; simp
theorem run_cutH {P : Program} {t E : TypeId} {i : TypeInfo} (ht : P.underlying t = some (.slice E)) (hi : P.info? E = some i) (hs : i.size = 1) (a : Option Addr) (len cap h : Nat) (hhi : h ≤ cap) (w : World) :
    (Instr.slice t (.slice a len cap) none (some (.int .i64 (h : Int))) none).run P w = .ok (.slice a h cap) w := by
  have he : P.elem t = E := by simp [Program.elem, ht]
  rw [run_slice_h w t a len cap (by rw [he]; exact ht) .i64 h (by omega) (by omega), he]
  have e : (a.map fun x => x.add 0) = a := by cases a <;> simp [add_zero']
  simp [sizeOf, typeInfo, hi, hs, sliced, e]
theorem run_cutHAt {P : Program} {t E : TypeId} {i : TypeInfo} (ht : P.underlying t = some (.slice E)) (hi : P.info? E = some i) (hs : i.size = 1) (a : Option Addr) (len cap h : Nat) (hhi : h ≤ cap) (w : World) :
    (Instr.sliceAt t (.slice a len cap) none (some (.int .i64 (h : Int))) none).run P w = .ok (.slice a h cap) w := by
  have he : P.elem t = E := by simp [Program.elem, ht]
  rw [run_sliceAt_slice w t _ _ _ _ (by rw [he]; exact ht)]
  exact run_cutH ht hi hs a len cap h hhi w
theorem SlAt.takeH {w : World} {ao : Option Addr} {n c : Nat} {xs : List Value} (h : SlAt w (.slice ao n c) xs) {k : Nat} (hk : k ≤ n) : SlAt w (.slice ao k c) (xs.take k) := by
  have hl := h.len
  obtain ⟨ao', c', e, hn, hc⟩ := h.val
  injection e with e1 e2 e3
  subst e1; subst e3
  refine ⟨ao, c, by rw [List.length_take, Nat.min_eq_left (by omega)], fun h0 => by rw [hn h0]; simp, fun a ha j u hu => hc a ha j u ?_⟩
  rw [List.getElem?_take] at hu
  split at hu
  · exact hu
  · cases hu
theorem own_takeH {w : World} {B : Nat} {E : TypeId} {ao : Option Addr} {n c : Nat} {xs : List Value} (h : w.ownsRow B E 1 (.slice ao n c) n xs) {k : Nat} (hk : k ≤ n) : w.ownsRow B E 1 (.slice ao k c) k (xs.take k) := by
  refine ⟨by rw [List.length_take, h.1]; omega, ?_⟩
  rcases h.2 with ⟨e, h0⟩ | ⟨g, cap, cur, e, hb, hg, hnc, hcm, hcs, ht⟩
  · injection e with e1 e2 e3
    subst e1; subst e3
    exact .inl ⟨by rw [show k = 0 by omega], by omega⟩
  · injection e with e1 e2 e3
    subst e1; subst e3
    refine .inr ⟨g, c, cur, rfl, hb, hg, by omega, hcm, hcs, ?_⟩
    rw [← ht, List.take_take]
    congr 1
    omega

theorem bitsOf_take (l : List Nat) (n : Nat) (h : n ≤ 8 * l.length) : (bitsOf l).take n = bitsOf (l.take (n / 8)) ++ bitsN (l.getD (n / 8) 0 / 2 ^ (8 - n % 8)) (n % 8) := by
  have hsp : bitsOf l = bitsOf (l.take (n / 8)) ++ bitsOf (l.drop (n / 8)) := by rw [← bitsOf_append, List.take_append_drop]
  have hl : (bitsOf (l.take (n / 8))).length = 8 * (n / 8) := by rw [bitsOf_length, List.length_take]; omega
  rw [hsp, List.take_append, List.take_of_length_le (by rw [hl]; omega), hl]
  congr 1
  have e : n - 8 * (n / 8) = n % 8 := by omega
  rw [e]
  by_cases hr : n % 8 = 0
  · rw [hr]; simp [bitsN]
  · have hq : n / 8 < l.length := by omega
    rw [List.drop_eq_getElem_cons hq, bitsOf_cons, List.getD_eq_getElem?_getD, List.getElem?_eq_getElem hq]
    simp only [Option.getD_some]
    have e2 : bitsN l[n / 8] 8 = bitsN (l[n / 8] / 2 ^ (8 - n % 8)) (n % 8) ++ bitsN l[n / 8] (8 - n % 8) := by
      rw [← bitsN_add]; congr 1; omega
    rw [e2, List.append_assoc, List.take_append, List.take_of_length_le (by simp)]
    simp

set_option maxHeartbeats 1000000 in
theorem bputbits_no (B p : Nat) (v : Value) (bs : List Bool) (ao : Option Addr) (c L : Nat) (n : Int) (w : World) (_HW : BwAt w B p v bs) (hL : L ≤ 1000000000) (hn : n < 0 ∨ 8 * (L : Int) < n) :
    Calls Try.prog 17 #[.pointer (some ⟨p, 0, none⟩), .slice ao L c, .int .i64 n] w fun e w' => e = .returned (.bool false) ∧ w = w' := by
  by_cases h1 : n < 0
  · go_enter Try.func17, Try.ntmps17
    go_wp2
    go_ret
    exact ⟨rfl, rfl⟩
  · have h2 : 8 * (L : Int) < n := by omega
    go_enter Try.func17, Try.ntmps17
    go_wp2
    go_ret
    exact ⟨rfl, rfl⟩

set_option maxHeartbeats 2000000 in
set_option maxRecDepth 100000 in
theorem bputbits_yes (B p : Nat) (v : Value) (bs : List Bool) (ao : Option Addr) (c : Nat) (l : List Nat) (n : Nat) (w : World) (HW : BwAt w B p v bs) (hB : B ≤ w.heap.size) (hv : SlAt w (.slice ao l.length c) (bys l)) (hlc : l.length ≤ c)
    (hl : l.length ≤ 1000000) (hb : ∀ x ∈ l, x < 256) (hbs : bs.length ≤ 100000000) (hn : n ≤ 8 * l.length)
    (hap : 0 < l.length → ∀ a, ao = some a → a.block ≠ p ∧ v.ownBlock ≠ some a.block) :
    Calls Try.prog 17 #[.pointer (some ⟨p, 0, none⟩), .slice ao l.length c, .int .i64 n] w fun e w' => e = .returned (.bool true) ∧ BwTo w w' B p v (bs ++ (bitsOf l).take n) := by
  obtain ⟨i0, hi, hz0, hz1, hz2⟩ := info_parts Try.infoU8
  have h1 : ¬ (n : Int) < 0 := by omega
  have h2 : ¬ 8 * (l.length : Int) < (n : Int) := by omega
  obtain ⟨q, hq⟩ : ∃ q, q = n / 8 := ⟨_, rfl⟩
  obtain ⟨r, hr⟩ : ∃ r, r = n % 8 := ⟨_, rfl⟩
  have r1 : (n : Int) / 8 = (q : Int) := by omega
  have r2 : (n : Int) % 8 = (r : Int) := by omega
  have r3 : IntKind.i64.wrap (q : Int) = (q : Int) := IntWalk.i64_in _ ⟨by omega, by omega⟩
  have s1 := fun w => run_cutH (P := Try.prog) Try.underlying29 hi hz1 ao l.length c q (by omega) w
  have s2 := fun w => run_cutHAt (P := Try.prog) Try.underlying29 hi hz1 ao l.length c q (by omega) w
  have HV := Lib.hid hv
  have HBB := Lib.hid hb
  have HQ := Lib.hid hq
  have HR := Lib.hid hr
  have hqn : q ≤ l.length := by omega
  have hst : BwTo w w B p v (bs ++ bitsOf (l.take 0)) := by simpa using HW.to
  have HAP := Lib.hid hap
  have HWW := Lib.hid HW
  have keep : ∀ wr, Kept (fun k => k = p ∨ v.ownBlock = some k) w wr → SlAt wr (.slice ao l.length c) (bys l) := fun wr K => by
    rcases Nat.eq_zero_or_pos l.length with h0 | h0
    · obtain rfl : l = [] := List.eq_nil_of_length_eq_zero h0
      exact ⟨ao, c, rfl, fun _ => rfl, by simp [bys]⟩
    · exact HV.out.kept K (fun k e hS => by
        cases ao with
        | none => cases e
        | some a =>
          have h3 := HAP.out h0 a rfl
          have e' : a.block = k := by simpa [Value.ownBlock] using e
          rcases hS with h4 | h4
          · exact h3.1 (by omega)
          · exact h3.2 (by rw [h4, e']))
  have KEEP := Lib.hid keep
  clear hv hb hq hr HW hap keep
  go_enter Try.func17, Try.ntmps17
  go_wp2
  go_loopg [24] q (fun g s24 wr => ∃ i : Nat, i ≤ q ∧ g = q - i ∧ s24 = .int .i64 i ∧ BwTo w wr B p v (bs ++ bitsOf (l.take i)))
  case atStart => exact ⟨0, Nat.zero_le _, rfl, rfl, hst⟩
  case round =>
    obtain ⟨i, hil, rfl, rfl, hto⟩ := hrel
    clear hst
    have hkk : Kept (fun k => k = p ∨ v.ownBlock = some k) w wr := by obtain ⟨_, _, _, K⟩ := hto; exact K
    have hvr := KEEP.out wr hkk
    obtain ⟨v1, HW1, hsz1, back⟩ := hto.part
    by_cases hd : i < q
    · obtain ⟨x, hx⟩ : ∃ x, x = l.getD i 0 := ⟨_, rfl⟩
      have hil2 : i < l.length := by omega
      obtain ⟨g, off, rfl, hcell⟩ := hvr.elem (i := i) (u := .int .u8 ((l.getD i 0 : Nat) : Int)) (bys_get hil2)
      have hx2 : x < 256 := by rw [hx, List.getD_eq_getElem?_getD, List.getElem?_eq_getElem hil2]; exact HBB.out _ (List.getElem_mem hil2)
      rw [← hx] at hcell
      have hlen : (bs ++ bitsOf (l.take i)).length ≤ 1000000000 := by rw [List.length_append, bitsOf_length, List.length_take]; omega
      have xw : IntKind.u64.wrap (x : Int) = (x : Int) := by rw [IntKind.wrap_u64]; omega
      have HP := Lib.hid (bput_yes B p v1 _ x 8 wr HW1 (Nat.le_trans hB hsz1) (by decide) (by omega) hlen)
      have HST : Hid (bs ++ bitsOf (l.take (i + 1)) = (bs ++ bitsOf (l.take i)) ++ bitsN x 8) := by
        show _ = _
        rw [take_snocN l i hil2, ← hx, bitsOf_append, List.append_assoc]; simp [bitsOf]
      have HD := Lib.hid hd
      have hdi : (i : Int) < (q : Int) := by omega
      have hdi0 : (0 : Int) ≤ (i : Int) := by omega
      clear hvr hx hx2 hlen hd HW1 hkk hto
      go_wp2_with fail
      refine HP.out.mono ?_
      rintro e w2 ⟨rfl, ht⟩
      have T2 := Lib.hid (back.out _ _ ht)
      clear ht
      go_wp2
      go_roundg (q - (i + 1))
      case measure => have := HD.out; omega
      case rel => exact ⟨i + 1, HD.out, rfl, by go_num, by rw [HST.out]; exact T2.out⟩
    · obtain rfl : i = q := by omega
      have hfin : (bitsOf l).take n = bitsOf (l.take i) ++ bitsN (l.getD i 0 / 2 ^ (8 - r)) r := by rw [HQ.out, HR.out]; exact bitsOf_take l n hn
      have HF := Lib.hid hfin
      clear hfin hd
      by_cases hr0 : 0 < r
      · have hil2 : i < l.length := by have := HQ.out; have := HR.out; omega
        obtain ⟨x, hx⟩ : ∃ x, x = l.getD i 0 := ⟨_, rfl⟩
        obtain ⟨g, off, rfl, hcell⟩ := hvr.elem (i := i) (u := .int .u8 ((l.getD i 0 : Nat) : Int)) (bys_get hil2)
        have hx2 : x < 256 := by rw [hx, List.getD_eq_getElem?_getD, List.getElem?_eq_getElem hil2]; exact HBB.out _ (List.getElem_mem hil2)
        rw [← hx] at hcell HF
        have hr8 : r < 8 := by have := HR.out; omega
        obtain ⟨d, hd⟩ : ∃ d, d = 8 - r := ⟨_, rfl⟩
        have d1 : 8 - (r : Int) = (d : Int) := by omega
        have d2 : IntKind.i64.wrap (8 - (r : Int)) = (d : Int) := by rw [d1]; exact IntWalk.i64_in _ ⟨by omega, by omega⟩
        have hd0 : (0 : Int) ≤ (d : Int) := by omega
        obtain ⟨y, hy⟩ : ∃ y, y = x / 2 ^ d := ⟨_, rfl⟩
        have hy1 : (x : Int) / 2 ^ d = (y : Int) := by rw [hy]; simp
        have hyx : y ≤ x := by rw [hy]; exact Nat.div_le_self _ _
        have hyr : y < 2 ^ r := by
          rw [hy]
          refine Nat.div_lt_of_lt_mul ?_
          rw [← Nat.pow_add]
          have : d + r = 8 := by omega
          rw [this]; exact hx2
        rw [← hd, ← hy] at HF
        have yw : IntKind.u64.wrap (y : Int) = (y : Int) := by rw [IntKind.wrap_u64]; omega
        have hlen : (bs ++ bitsOf (l.take i)).length ≤ 1000000000 := by rw [List.length_append, bitsOf_length, List.length_take]; omega
        have HP := Lib.hid (bput_yes B p v1 _ y r wr HW1 (Nat.le_trans hB hsz1) (by omega) hyr hlen)
        have hr1 : (0 : Int) < (r : Int) := by omega
        have hii : (i : Int) < (l.length : Int) := by omega
        have hi00 : (0 : Int) ≤ (i : Int) := by omega
        clear hvr hx hx2 hlen HW1 hkk hto hd hy hyr hyx
        go_wp2_with fail
        refine HP.out.mono ?_
        rintro e w2 ⟨rfl, ht⟩
        have T2 := Lib.hid (back.out _ _ ht)
        clear ht
        go_wp2
        go_ret
        exact ⟨rfl, by rw [HF.out, ← List.append_assoc]; exact T2.out⟩
      · obtain rfl : r = 0 := by omega
        clear hvr HW1 hkk
        have hr1 : ¬ (0 : Int) < ((0 : Nat) : Int) := by decide
        go_wp2
        go_ret
        refine ⟨rfl, ?_⟩
        rw [HF.out]
        simpa [bitsN] using hto
end Go.Proofs.Ytanhdjdojeoodaa
