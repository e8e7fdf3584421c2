/- Layer 34: Open. -/
import Derived.Test.YtkidbbmdlmnokaaTI
import Derived.Test.YtkidbbmdlmnokaaTH
namespace Go.Proofs.Ytkidbbmdlmnokaa
open Go.RowKit
attribute [local go_sem ↓] Go.wp_at_zero Go.wp_at_succ

/-- A reader stays beside blocks that hold neither readers nor bytes. -/
theorem RK.blk {W w w' : World} {p : Nat} {l : List Int} {t : Nat} {e : Int} {S : Nat → Prop} (h : RK W w p l t e) (k : Kept S w w') (hs : ∀ j, S j → W.heap.size ≤ j ∧ ∃ cs fr T, w.heap[j]? = some (.cells cs T fr) ∧ T ≠ 113 ∧ T ≠ 5) : RK W w' p l t e := by
  obtain ⟨v, hr, hk⟩ := h
  refine ⟨v, hr.kept k ?_ ?_, hk.newer k (fun j hj => (hs j hj).1)⟩
  · intro hp
    obtain ⟨_, cs, fr, T, h1, h2, _⟩ := hs p hp
    rw [hr.box] at h1
    injection h1 with h1
    injection h1 with _ h1
    exact h2 h1.symm
  · intro j hj hS
    obtain ⟨_, cs, fr, T, h1, _, h2⟩ := hs j hS
    obtain ⟨cur, hc⟩ := ownsRow_block hr.owns hj
    rw [hc] at h1
    injection h1 with h1
    injection h1 with _ h1
    exact h2 h1.symm
theorem RK.base {W w : World} {p : Nat} {l : List Int} {t : Nat} {e : Int} (h : RK W w p l t e) : W.heap.size ≤ p := h.elim fun _ h => h.1.base
theorem RK.box {W w : World} {p : Nat} {l : List Int} {t : Nat} {e : Int} (h : RK W w p l t e) : ∃ cs, w.heap[p]? = some (.cells cs 113 (0, 0)) := h.elim fun _ h => ⟨_, h.1.box⟩
theorem RK.taken {W w : World} {p : Nat} {l : List Int} {t : Nat} {e : Int} (h : RK W w p l t e) : t ≤ l.length := h.elim fun _ h => h.1.taken
theorem RK.byte {W w : World} {p : Nat} {l : List Int} {t : Nat} {e : Int} (h : RK W w p l t e) : ∀ x ∈ l, 0 ≤ x ∧ x < 256 := h.elim fun _ h => h.1.byte
/-- What Open has in memory: the reader, the table, its texts. -/
structure OS (W w : World) (p tb : Nat) (l : List Int) (t : Nat) (e : Int) (acc : List ByteArray) (ao : Option Addr) (cp : Nat) : Prop where
  rd : RK W w p l t e
  box : w.heap[tb]? = some (.cells #[.slice ao acc.length cp] 104 (0, 0))
  own : Mine W w 9 (.slice ao acc.length cp) (strs acc)
  base : W.heap.size ≤ tb
section
variable {W w w' : World} {p tb t t' : Nat} {l : List Int} {e e' : Int} {acc : List ByteArray} {ao : Option Addr} {cp : Nat}
theorem OS.next (h : OS W w p tb l t e acc ao cp) (hr : RK W w' p l t' e') (k : Kept (fun k => k = p) w w') : OS W w' p tb l t' e' acc ao cp := by
  obtain ⟨cs, hb⟩ := h.rd.box
  have ht : tb ≠ p := by
    intro q
    have := h.box
    rw [q, hb] at this
    injection this with this
    injection this with _ this
    revert this
    decide
  exact ⟨hr, k.same h.box ht, h.own.keptS k (fun j hj e => own_ne_box h.own.own hb (by decide) (e ▸ hj)) (fun j e => e ▸ h.rd.base), h.base⟩
theorem OS.kept (h : OS W w p tb l t e acc ao cp) (k : Kept (fun _ => False) w w') : OS W w' p tb l t e acc ao cp :=
  ⟨h.rd.kept k, k.same h.box (fun x => x), h.own.on k, h.base⟩
/-- A text more: the row has grown, then the table tells it. -/
theorem OS.grow {w1 : World} {a' : Option Addr} {c' : Nat} (h : OS W w p tb l t e acc ao cp) (s : ByteArray) (o : Obj) (hm : Mine W w1 9 (.slice a' (acc ++ [s]).length c') (strs (acc ++ [s])))
    (k : Kept (fun k => (Value.slice ao acc.length cp).ownBlock = some k) (w.alloc o) w1) : w1.cell? ⟨tb, 0, none⟩ = some (.slice ao acc.length cp) ∧ w1.frozen? ⟨tb, 0, none⟩ = false ∧ OS W (w1.setCell ⟨tb, 0, none⟩ (.slice a' (acc ++ [s]).length c')) p tb l t e (acc ++ [s]) a' c' := by
  have h0 := h.kept ((Kept.refl _ w).alloc o)
  have hne : (Value.slice ao acc.length cp).ownBlock ≠ some tb := own_ne_box h0.own.own h0.box (by decide)
  have hb : w1.heap[tb]? = some (.cells #[.slice ao acc.length cp] 104 (0, 0)) := k.same h0.box hne
  have hr1 : RK W w1 p l t e := h0.rd.blk k (fun j hj => by
    obtain ⟨cur, hc⟩ := ownsRow_block h0.own.own hj
    exact ⟨(ownsRow_lt h0.own.own hj).2, cur, _, _, hc, by decide, by decide⟩)
  have k2 : Kept (fun k => k = tb) w1 (w1.setCell ⟨tb, 0, none⟩ (.slice a' (acc ++ [s]).length c')) := (Kept.refl (fun k => k = tb) w1).setCell (p := ⟨tb, 0, none⟩) (fun _ => rfl) _
  refine ⟨by rw [cell_of_row _ _ 0 _ _ _ hb]; rfl, free_of_one hb, ?_, ?_, ?_, h.base⟩
  · exact hr1.blk k2 (fun j hj => by subst hj; exact ⟨h.base, _, _, _, hb, by decide, by decide⟩)
  · exact one_setCell hb
  · exact hm.keptS k2 (fun j hj e => own_ne_box hm.own hb (by decide) (e ▸ hj)) (fun j e => e ▸ h.base)
end
/-- What Open leaves. -/
def OpenTo (w : World) (r : Int × List ByteArray) (e : Ending) (w' : World) : Prop :=
  Kept (fun _ => False) w w' ∧ (r.1 ≠ 0 → e = .returned (.tuple #[.pointer none, .int .i64 r.1])) ∧ (r.1 = 0 → ∃ tb, e = .returned (.tuple #[.pointer (some ⟨tb, 0, none⟩), .int .i64 0]) ∧ TabAt w' tb r.2 ∧ w.heap.size ≤ tb)
theorem OpenTo.bad {w w' : World} {x : Int} (k : Kept (fun _ => False) w w') (h : x ≠ 0) : OpenTo w (x, []) (.returned (.tuple #[.pointer none, .int .i64 x])) w' :=
  ⟨k, fun _ => rfl, fun e => absurd e h⟩
theorem OpenTo.good {w w' : World} {p tb t : Nat} {l : List Int} {e : Int} {acc : List ByteArray} {ao : Option Addr} {cp : Nat} (h : OS w w' p tb l t e acc ao cp) : OpenTo w (0, acc) (.returned (.tuple #[.pointer (some ⟨tb, 0, none⟩), .int .i64 0])) w' :=
  ⟨h.rd.old, fun e => absurd rfl e, fun _ => ⟨tb, rfl, ⟨ao, cp, h.box, h.own.at_, ownsRow_cap (by have := h.own.own; rwa [strs_length] at this)⟩, h.base⟩⟩
theorem preL_bad (acc : List ByteArray) {x : Int} (h : x ≠ 0) : preL acc (x, []) = (x, []) := by unfold preL; rw [if_pos h]
theorem preL_good (acc L : List ByteArray) : preL acc (0, L) = (0, acc ++ L) := by unfold preL; rw [if_neg (by simp)]
theorem opnL_err (l : List Int) : ∀ (k i t : Nat) (e : Int) (a : ByteArray), (opnL l k i t e a).1 ≠ 0 → (opnL l k i t e a).2 = []
  | 0, _, _, _, _, _ => rfl
  | k + 1, i, t, e, a, h => by
    unfold opnL at h ⊢
    split
    · rfl
    · rename_i h1
      rw [if_neg h1] at h
      unfold preL at h ⊢
      split
      · rfl
      · rename_i h2
        rw [if_neg h2] at h
        simp at h
theorem preL_nil {r : Int × List ByteArray} (h : r.1 ≠ 0 → r.2 = []) : preL [] r = r := by
  unfold preL
  obtain ⟨e, b⟩ := r
  simp only at h ⊢
  split
  · rename_i h1; rw [h h1]
  · rename_i h1
    rw [List.nil_append, Classical.not_not.1 h1]
theorem strOf_size (l : List Int) : (strOfNums l).size = l.length := by
  unfold strOfNums ByteArray.size
  simp
theorem snext2_any {W w : World} {p : Nat} {l : List Int} {t : Nat} {e : Int} (i : Nat) (a : ByteArray) (h : RK W w p l t e) (hl : l.length ≤ 1000000000) (hi : i ≤ 1000000) (ha : a.size ≤ 1000000) :
    Calls Try.prog 79 #[.pointer (some ⟨p, 0, none⟩), .int .i64 (i : Int), .string a] w fun e' w' =>
      e' = .returned (.tuple #[.string (nxR l i t e a).1, .int .i64 (nxR l i t e a).2]) ∧ RK W w' p l (endR l t e) (txtR l t e).2.2 ∧ Kept (fun k => k = p) w w' := by
  obtain ⟨n, hn, hn4⟩ := countF_nat l t e 400 h.byte (by omega)
  have hx := textF_len l (t + (countF l t e 400).2.1) (countF l t e 400).2.2 400 h.byte (by omega)
  have := snext_any i a n h (by omega) hi ha hn (by omega) (by rw [strOf_size]; omega)
  unfold nxR endR txtR
  rw [hn, Int.toNat_natCast]
  exact this
set_option maxHeartbeats 8000000 in
set_option maxRecDepth 100000 in
theorem open_any (v : Value) (ao : Option Addr) (c : Nat) (l : List Int) (w : World) (hv : SliceAt w v ao l.length c (u8s l)) (hl : l.length ≤ 1000000000) (hb : ∀ x ∈ l, 0 ≤ x ∧ x < 256) :
    Calls Try.prog 34 #[v] w fun e w' => OpenTo w (openS l) e w' := by
  obtain ⟨iI, hiI, hzI0, hzI1, hzI2⟩ := info_parts Try.infoT
  have HX : Hid (openS l = opnL l (countF l 0 0 4096).1.toNat 0 (countF l 0 0 4096).2.1 (countF l 0 0 4096).2.2 ByteArray.empty) := Lib.hid rfl
  have HN := Lib.hid (rkNew_any v ao c l w hv (by omega) hb)
  have HC := Lib.hid (fun (W w : World) (p : Nat) (h : RK W w p l 0 0) => rkCount_any 4096 h (by omega) (by omega) (by omega))
  obtain ⟨n, hn, hn4⟩ := countF_nat l 0 0 4096 hb (by omega)
  rw [hn, Int.toNat_natCast] at HX
  rw [hn] at HC
  have HTK := Lib.hid (countF_taken l 0 0 4096 (Nat.zero_le _))
  obtain ⟨t0, ht0⟩ : ∃ t0, t0 = (countF l 0 0 4096).2.1 := ⟨_, rfl⟩
  obtain ⟨e0, he0⟩ : ∃ e0, e0 = (countF l 0 0 4096).2.2 := ⟨_, rfl⟩
  rw [← ht0, ← he0] at HX HC
  rw [← ht0, Nat.zero_add] at HTK
  have HL := Lib.hid hl
  have HB := Lib.hid hb
  have hn5 : n ≤ 4096 := by omega
  have HN4 := Lib.hid hn5
  clear hv hl hb hn hn4 ht0 he0 hn5 hiI hzI0 hzI1 hzI2
  go_enter Try.func34, Try.ntmps34
  go_wp2_with fail
  refine HN.out.mono ?_
  rintro e w1 ⟨p, rfl, hr1⟩
  obtain ⟨w2, hw2⟩ : ∃ w2, w2 = w1.alloc (.cells #[.slice none 0 0] 104) := ⟨_, rfl⟩
  obtain ⟨tb, htb⟩ : ∃ tb, tb = w1.heap.size := ⟨_, rfl⟩
  have hos : OS w w2 p tb l 0 0 [] none 0 := by
    have k : Kept (fun _ => False) w1 w2 := by rw [hw2]; exact (Kept.refl _ _).alloc _
    exact ⟨hr1.kept k, by rw [hw2, htb]; exact heap_alloc_new w1 _, Mine.nil' _ (hr1.old.trans k), by rw [htb]; exact hr1.old.size⟩
  have HW2 := Lib.hid (And.intro hw2 htb)
  have HO2 := Lib.hid hos
  clear hos hw2 htb hr1
  go_upto_region 3 with fail
  rw [← HW2.out.1, ← HW2.out.2]
  go_wp2_with fail
  refine (HC.out w w2 p HO2.out.rd).mono ?_
  rintro e w3 ⟨rfl, hr3, k3⟩
  rw [Nat.zero_add] at hr3
  have HO3 := Lib.hid (HO2.out.next hr3 k3)
  clear hr3 k3
  go_upto_region 5 with fail
  go_loopg [17, 6] n (fun G s17 s6 wr => ∃ i : Nat, i ≤ n ∧ G = n - i ∧ s17 = .int .i64 i ∧ ∃ a, s6 = .string a ∧ a.size ≤ 400 ∧ ∃ t e acc ao cp, OS w wr p tb l t e acc ao cp ∧ acc.length = i ∧ openS l = preL acc (opnL l (n - i) i t e a))
  case atStart => exact ⟨0, Nat.zero_le _, rfl, rfl, ByteArray.empty, rfl, by decide, t0, e0, [], none, 0, HO3.out, rfl, by rw [HX.out, Nat.sub_zero, preL_nil (opnL_err _ _ _ _ _ _)]⟩
  case round =>
    obtain ⟨i, hin, rfl, rfl, a, rfl, ha, t, e, acc, ao, cp, hos, hal, hop⟩ := hrel
    have HO := Lib.hid hos
    have HA := Lib.hid (And.intro ha hal)
    have HP := Lib.hid hop
    clear hos hal hop ha
    by_cases hd : i < n
    · have hdi : (i : Int) < (n : Int) := by omega
      have wi : IntKind.i64.wrap ((i : Int) + 1) = ((i + 1 : Nat) : Int) := by rw [IntWalk.i64_in _ ⟨by omega, by have := HN4.out; omega⟩]; omega
      have HS := Lib.hid (snext2_any i a HO.out.rd HL.out (by have := HN4.out; omega) (by have := HA.out.1; omega))
      have HZ := Lib.hid (nxtS_size i a (countF l t e 400).1.toNat (strOfNums (txtR l t e).1) (txtR l t e).2.2)
      have HF : Hid ((nxR l i t e a).2 ≠ 0 → openS l = ((nxR l i t e a).2, [])) := Lib.hid (fun h => by rw [HP.out, show n - i = (n - i - 1) + 1 by omega, opnL_fault h, preL_bad _ h])
      have HT : Hid ((nxR l i t e a).2 = 0 → openS l = preL (acc ++ [(nxR l i t e a).1]) (opnL l (n - (i + 1)) (i + 1) (endR l t e) (txtR l t e).2.2 (nxR l i t e a).1)) := Lib.hid (fun h => by rw [HP.out, show n - i = (n - (i + 1)) + 1 by omega, opnL_step h, preL_preL])
      have HD := Lib.hid hd
      obtain ⟨s, hs⟩ : ∃ s, s = (nxR l i t e a).1 := ⟨_, rfl⟩
      obtain ⟨e1, he1⟩ : ∃ e1, e1 = (nxR l i t e a).2 := ⟨_, rfl⟩
      have HZ2 : Hid (s.size ≤ 400) := Lib.hid (by rw [hs]; exact HZ.out)
      rw [← hs, ← he1] at HS HT
      rw [← he1] at HF
      clear hs he1 hd hin HZ
      go_wp2_with fail
      refine HS.out.mono ?_
      rintro e' w4 ⟨rfl, hr4, k4⟩
      have HO4 := Lib.hid (HO.out.next hr4 k4)
      clear hr4 k4
      by_cases he : e1 = 0
      · have HT2 := Lib.hid (HT.out he)
        have q1 : (e1 != (0 : Int)) = false := bneF he
        have c1 : w4.cell? ⟨tb, 0, none⟩ = some (.slice ao acc.length cp) := cell_of_one HO4.out.box
        have HG := Lib.hid (fun w1 a' c' hm k => HO4.out.grow (w1 := w1) (a' := a') (c' := c') s (.cells #[.string s] 9) hm k)
        have HM := Lib.hid (HO4.out.own.alloc (.cells #[.string s] 9))
        have HSrc := Lib.hid (src_oneT w4 s)
        clear he
        go_wp2_with (at_builtin; refine wpList_mineT rfl (.tmp 34) (.tmp 36) rfl w _ acc rfl HM.out _ [s] rfl HSrc.out (by rw [strs_length, strs_length]; have := HA.out.2; have := HN4.out; have := HD.out; simp; omega) ?_)
        intro v' w5 hm5 k5 _
        obtain ⟨a5, c5, rfl⟩ := hm5.slice
        rw [strs_length] at hm5 ⊢
        obtain ⟨g1, g2, g3⟩ := HG.out _ _ _ hm5 k5
        obtain ⟨m, hm⟩ : ∃ m, m = (acc ++ [s]).length := ⟨_, rfl⟩
        rw [← hm] at g3 ⊢
        have HO6 := Lib.hid g3
        clear g3 hm5 k5 hm
        go_wp2
        go_roundg (n - (i + 1))
        case measure => have := HD.out; omega
        case rel => exact ⟨i + 1, HD.out, rfl, rfl, s, rfl, HZ2.out, _, _, _, _, _, HO6.out, by rw [List.length_append, HA.out.2]; rfl, HT2.out⟩
      · have HF2 := Lib.hid (HF.out he)
        have q1 : (e1 != (0 : Int)) = true := bneT he
        have HE := Lib.hid he
        clear he
        go_wp2
        go_ret2
        rw [HF2.out]
        exact OpenTo.bad HO4.out.rd.old HE.out
    · obtain rfl : i = n := by omega
      have hdi : ¬ (i : Int) < (i : Int) := by omega
      have HDN := Lib.hid (rkDone_any HO.out.rd (by have := HL.out; omega))
      have HE : Hid (openS l = preL acc (doneF l t e, [])) := Lib.hid (by rw [HP.out, Nat.sub_self]; rfl)
      obtain ⟨e1, he1⟩ : ∃ e1, e1 = doneF l t e := ⟨_, rfl⟩
      rw [← he1] at HDN HE
      clear hd hin he1
      go_wp2_with fail
      refine HDN.out.mono ?_
      rintro e' w4 ⟨rfl, k4⟩
      have HO4 := Lib.hid (HO.out.kept k4)
      clear k4
      by_cases he : e1 = 0
      · have HE2 : Hid (openS l = (0, acc)) := Lib.hid (by rw [HE.out, he, preL_good, List.append_nil])
        have q1 : (e1 != (0 : Int)) = false := bneF he
        clear he
        go_wp2
        go_ret2
        rw [HE2.out]
        exact OpenTo.good HO4.out
      · have HE2 : Hid (openS l = (e1, [])) := Lib.hid (by rw [HE.out, preL_bad _ he])
        have q1 : (e1 != (0 : Int)) = true := bneT he
        have HNZ := Lib.hid he
        clear he
        go_wp2
        go_ret2
        rw [HE2.out]
        exact OpenTo.bad HO4.out.rd.old HNZ.out
end Go.Proofs.Ytkidbbmdlmnokaa
