/- Layer 11: strings.Cut and Split at a text of one byte (written by tools/gen_XAF.py). -/
import Derived.Test.YtkgjkcfjkjkflaaDoorAE
namespace Go.Proofs.YtkgjkcfjkjkflaaDoor
open Go.RowKit
attribute [local go_sem ↓] Go.wp_at_zero Go.wp_at_succ

theorem run_make1 {P : Program} {t e : TypeId} {i : TypeInfo} {z : Value} (ht : P.underlying t = some (.slice e)) (hi : P.info? e = some i) (hz : i.zero = some z) (hs : i.size = 1) (hzc : z.cells = #[z]) (hb : i.bytes ≤ 64) (n : Nat) (hn : n ≤ 1000000) (w : World) :
    (Instr.makeSlice t (.int .i64 (n : Int)) (.int .i64 (n : Int))).run P w = .ok (.slice (some ⟨w.heap.size, 0, none⟩) n n) (w.alloc (.cells (Array.replicate n z) e)) := by
  have hbn : (i.bytes : Int) * (n : Int) ≤ 64 * 1000000 := by
    have : i.bytes * n ≤ 64 * 1000000 := Nat.mul_le_mul hb hn
    have h2 : ((i.bytes * n : Nat) : Int) ≤ 64 * 1000000 := by omega
    rwa [Int.natCast_mul] at h2
  have hr := run_makeSlice (P := P) w t e i z ht hi hz .i64 .i64 (n : Int) (n : Int) (by omega) (Int.le_refl _) (by rw [hs]; omega) (by omega) (by omega)
  rw [hr]
  simp only [Int.toNat_natCast]
  have e : madeCells z.cells (n * i.size) = Array.replicate n z := by
    rw [hs, Nat.mul_one, hzc]
    apply Array.toList_inj.1
    rw [toList_madeCells_one]; simp
  rw [e]
theorem mine_made {W w : World} (hk : Kept (fun _ => False) W w) (n : Nat) (z : Value) (E : TypeId) (hn : n ≤ maxLen) : Mine W (w.alloc (.cells (Array.replicate n z) E)) E (.slice (some ⟨w.heap.size, 0, none⟩) n n) (List.replicate n z) := by
  refine ⟨⟨by simp, .inr ⟨w.heap.size, n, _, by simp, hk.size, heap_alloc_new w _, by simp, hn, by simp, ?_⟩⟩, hk.alloc _⟩
  simp
theorem uvals_set (l : List Nat) (j x : Nat) : (uvals l).set j (.int .u64 (x : Int)) = uvals (l.set j x) := by unfold uvals; rw [List.map_set]
theorem uvals_replicate (n : Nat) : uvals (List.replicate n 0) = List.replicate n (.int .u64 0) := by unfold uvals; rw [List.map_replicate]; rfl
theorem scut1_any (s : ByteArray) (c : UInt8) (w : World) (hs : s.size ≤ 1000000) :
    Calls Tryd.prog 39 #[.string s, .string { data := #[c] }] w fun e w' => e = .returned (.tuple #[.string (cutS s c).1, .string (cutS s c).2.1, .bool (cutS s c).2.2]) ∧ Kept (fun _ => False) w w' := by
  have HI := Lib.hid (cut1_any s c w hs)
  obtain ⟨R, hR⟩ : ∃ R, R = cutS s c := ⟨_, rfl⟩
  rw [← hR] at HI ⊢
  obtain ⟨A, B, b⟩ := R
  clear hs hR
  go_enter Tryd.func39, Tryd.ntmps39
  go_wp2_with fail
  refine HI.out.mono ?_
  rintro e w' ⟨rfl, k⟩
  go_wp2
  go_ret3
  exact ⟨rfl, k⟩

/-- A text's parts between such bytes, so many cuts at most. -/
def splitS (c : UInt8) : Nat → ByteArray → List ByteArray
  | 0, s => [s]
  | k + 1, s => if ixB s c = -1 then [s] else s.extract 0 (ixB s c).toNat :: splitS c k (s.extract ((ixB s c).toNat + 1) s.size)
theorem splitS_none {c : UInt8} {s : ByteArray} (k : Nat) (h : ixB s c = -1) : splitS c k s = [s] := by cases k with | zero => rfl | succ k => exact if_pos h
/-- All of a text's parts. -/
def splitA (c : UInt8) (s : ByteArray) : List ByteArray := splitS c (s.toList.count c) s
theorem own_unfrozen {w : World} {B : Nat} {E : TypeId} {g n c s : Nat} {xs : List Value} (h : w.ownsRow B E s (.slice (some ⟨g, 0, none⟩) n c) n xs) (k : Nat) : w.frozen? ⟨g, k, none⟩ = false := by
  rcases h.2 with ⟨e, _⟩ | ⟨g1, cap, cur, e, hg, hb, rest⟩
  · cases e
  · injection e with e1 e2 e3
    injection e1 with e1
    injection e1 with e1
    subst e1
    simp [World.frozen?, hb]
theorem own_len {w : World} {B : Nat} {E : TypeId} {v : Value} {n : Nat} {xs : List Value} (h : w.ownsRow B E 1 v n xs) : xs.length = n := by have := h.1; omega
theorem own_cell {w : World} {B : Nat} {E : TypeId} {g n c : Nat} {xs : List Value} (h : w.ownsRow B E 1 (.slice (some ⟨g, 0, none⟩) n c) n xs) {k : Nat} (hk : k < n) : ∃ u, w.cell? ⟨g, k, none⟩ = some u := by
  have hl := own_len h
  have := h.cells (g := g) rfl k xs[k] (List.getElem?_eq_getElem (by omega))
  rw [addr_add0] at this
  exact ⟨_, this⟩
theorem Tryd.infoStr : (Tryd.prog.info? 9).map (fun i => (i.zero, i.size, i.bytes)) = some (some (.string ByteArray.empty), 1, 16) := by kernel_rfl
theorem extract_le (s : ByteArray) (a b : Nat) : (s.extract a b).size ≤ s.size := by simp [ByteArray.size_extract]; omega

set_option maxHeartbeats 8000000 in
theorem genSplit1_any (s : ByteArray) (c : UInt8) (w : World) (hs : s.size ≤ 100000) :
    Calls Tryd.prog 38 #[.string s, .string { data := #[c] }, .int .i64 0, .int .i64 (-1)] w fun e w' => ∃ a cp, e = .returned (.slice a (splitA c s).length cp) ∧ SlAt w' (.slice a (splitA c s).length cp) ((splitA c s).map Value.string) ∧ (splitA c s).length ≤ cp ∧ Kept (fun _ => False) w w' := by
  have HC := Lib.hid (count1_any s c w)
  have HIX := Lib.hid fun t w => sindex1_any t c w
  have hcl : s.toList.count c ≤ s.size := by rw [← toList_size]; exact List.count_le_length
  obtain ⟨iS, hiS, hzS0, hzS1, hzS2⟩ := info_parts Tryd.infoStr
  unfold splitA
  obtain ⟨C, hC⟩ : ∃ k, k = s.toList.count c := ⟨_, rfl⟩
  rw [← hC] at HC hcl ⊢
  obtain ⟨N, hN⟩ : ∃ k, k = C + 1 := ⟨_, rfl⟩
  have w1 : IntKind.i64.wrap ((C : Int) + 1) = (N : Int) := by rw [IntWalk.i64_in _ ⟨by omega, by omega⟩]; omega
  have w2 : IntKind.i64.wrap ((s.size : Int) + 1) = ((s.size + 1 : Nat) : Int) := by rw [IntWalk.i64_in _ ⟨by omega, by omega⟩]; omega
  have hmn : (N : Int) ≤ ((s.size + 1 : Nat) : Int) := by omega
  have hmn2 : min (N : Int) ((s.size + 1 : Nat) : Int) = (N : Int) := by omega
  have hmk : ∀ w, _ := fun w => run_make1 (P := Tryd.prog) Tryd.underlying45 hiS hzS0 hzS1 rfl (by omega) N (by omega) w
  have w3 : IntKind.i64.wrap ((N : Int) - 1) = (C : Int) := by rw [IntWalk.i64_in _ ⟨by omega, by omega⟩]; omega
  have hbl : ([c] == ([] : List UInt8)) = false := rfl
  obtain ⟨wa, hwa⟩ : ∃ w', w' = w.alloc (.cells (Array.replicate N (.string ByteArray.empty)) 9) := ⟨_, rfl⟩
  have ka : Kept (fun _ => False) w wa := by rw [hwa]; exact (Kept.refl _ _).alloc _
  obtain ⟨gA, hgA⟩ : ∃ g, g = w.heap.size := ⟨_, rfl⟩
  have hown : wa.ownsRow w.heap.size 9 1 (.slice (some ⟨gA, 0, none⟩) N N) N (List.replicate N (.string ByteArray.empty)) := by
    rw [hwa, hgA]
    refine ⟨by simp, .inr ⟨w.heap.size, N, Array.replicate N (.string ByteArray.empty), rfl, Nat.le_refl _, heap_alloc_new w _, Nat.le_refl _, by unfold maxLen; omega, by simp, by simp⟩⟩
  have HOW0 := Lib.hid hown
  have HKA := Lib.hid ka
  have HWA := Lib.hid (And.intro hwa hgA)
  have HNN := Lib.hid hN
  have HS := Lib.hid hs
  have HCL := Lib.hid hcl
  obtain ⟨sz1, hsz1⟩ : ∃ k, k = s.size + 1 := ⟨_, rfl⟩
  rw [← hsz1] at w2 hmn hmn2
  clear hs hcl hN hC hzS0 hzS1 hzS2 hwa ka hgA hown hsz1
  go_enter Tryd.func38, Tryd.ntmps38
  go_wp2_with fail
  refine HC.out.mono ?_
  rintro e w' ⟨rfl, rfl⟩
  go_upto_region 9 with fail
  rw [← HWA.out.1, ← HWA.out.2]
  go_wp2
  go_loopg [0, 10] C (fun g s0 s10 wr => ∃ (i : Nat) (t : ByteArray) (Pt : List ByteArray) (xs : List Value), i ≤ C ∧ g = C - i ∧ s10 = .int .i64 i ∧ s0 = .string t ∧ Pt.length = i ∧ wr.ownsRow w.heap.size 9 1 (.slice (some ⟨gA, 0, none⟩) N N) N xs ∧ xs.take i = Pt.map Value.string ∧ splitS c C s = Pt ++ splitS c (C - i) t ∧ t.size ≤ 100000 ∧ Kept (fun _ => False) w wr)
  case atStart => exact ⟨0, s, [], _, Nat.zero_le _, rfl, rfl, rfl, rfl, HOW0.out, rfl, rfl, HS.out, HKA.out⟩
  case round =>
    obtain ⟨i, t, Pt, xs, hiC, rfl, rfl, rfl, hpl, how, htk, hsp, hts, hkw⟩ := hrel
    have HPL := Lib.hid hpl
    have HOW := Lib.hid how
    have HTK := Lib.hid htk
    have HKW := Lib.hid hkw
    have HIN := Lib.hid hiC
    have HTS := Lib.hid hts
    clear hpl how htk hkw hts
    by_cases hd : i < C
    · have hdi : (i : Int) < (C : Int) := by omega
      have HD := Lib.hid hd
      have HIX2 := Lib.hid (HIX.out t)
      rcases ixB_cases t c with h | ⟨o, h, ho⟩
      · have HFIN := Lib.hid (show Pt ++ [t] = splitS c C s by rw [hsp, splitS_none _ h])
        rw [h] at HIX2
        clear h hd hsp hiC
        go_wp2_with fail
        refine (HIX2.out _).mono ?_
        rintro e w' ⟨rfl, rfl⟩
        have hpl := HPL.out
        have hfz : ∀ k, wr.frozen? ⟨gA, k, none⟩ = false := own_unfrozen HOW.out
        have hi1 : (i : Int) < (N : Int) := by have := HIN.out; have := HNN.out; omega
        have hi0 : (0 : Int) ≤ (i : Int) := by omega
        have wi1 : IntKind.i64.wrap ((i : Int) + 1) = ((i + 1 : Nat) : Int) := by rw [IntWalk.i64_in _ ⟨by omega, by have := HIN.out; have := HCL.out; have := HS.out; omega⟩]; omega
        obtain ⟨u, hu⟩ := own_cell HOW.out (k := i) (by have := HIN.out; have := HNN.out; omega)
        have fz := hfz i
        have hcut : ∀ w, _ := fun w => run_cutHn (P := Tryd.prog) Tryd.underlying45 hiS (some ⟨gA, 0, none⟩) N N (i + 1) (by have := HIN.out; have := HNN.out; omega) w
        have hcutA : ∀ w, _ := fun w => run_cutHnAt (P := Tryd.prog) Tryd.underlying45 hiS (some ⟨gA, 0, none⟩) N N (i + 1) (by have := HIN.out; have := HNN.out; omega) w
        have hset := owns_set HOW.out i (.string t)
        obtain ⟨w3, hw3⟩ : ∃ w', w' = wr.setCell ⟨gA, i, none⟩ (.string t) := ⟨_, rfl⟩
        rw [← hw3] at hset
        have k3 : Kept (fun k => k = gA) wr w3 := by rw [hw3]; exact (Kept.refl (fun k => k = gA) wr).setCell (p := ⟨gA, i, none⟩) (fun _ => rfl) _
        have HK3 := Lib.hid (HKW.out.newer k3 (fun k e => by rw [e]; exact (ownsRow_lt HOW.out rfl).2))
        have hsl := (SlAt.ofOwn hset).takeH (k := i + 1) (by have := HIN.out; have := HNN.out; omega)
        have hxs : (xs.set i (.string t)).take (i + 1) = (Pt ++ [t]).map Value.string := by
          rw [List.map_append, ← HTK.out, List.take_add_one, List.getElem?_set_self (by have := own_len HOW.out; have := HIN.out; have := HNN.out; omega), List.take_set_of_le (Nat.le_refl _)]
          rfl
        rw [hxs] at hsl
        have HSL := Lib.hid hsl
        have HW3 := Lib.hid hw3
        obtain ⟨i1, hi1'⟩ : ∃ k, k = i + 1 := ⟨_, rfl⟩
        rw [← hi1'] at wi1 hcut hcutA HSL
        have HI1 := Lib.hid hi1'
        clear hpl hfz hset hw3 k3 hsl hxs hi1'
        go_upto_region 18 with fail
        rw [← HW3.out]
        go_wp2
        go_ret
        have hlen : (Pt ++ [t]).length = i1 := by rw [List.length_append, HPL.out, HI1.out]; rfl
        rw [← HFIN.out, hlen]
        exact ⟨_, _, rfl, HSL.out, by have := HI1.out; have := HIN.out; have := HNN.out; omega, HK3.out⟩
      · rw [h] at HIX2
        have hnx : splitS c (C - i) t = t.extract 0 o :: splitS c (C - (i + 1)) (t.extract (o + 1) t.size) := by
          rw [show C - i = (C - (i + 1)) + 1 by omega]
          show (if ixB t c = -1 then _ else _) = _
          rw [if_neg (by omega), h]
          rfl
        have hsp2 : splitS c C s = (Pt ++ [t.extract 0 o]) ++ splitS c (C - (i + 1)) (t.extract (o + 1) t.size) := by rw [hsp, hnx, List.append_assoc]; rfl
        have HSP := Lib.hid hsp2
        have wo : IntKind.i64.wrap ((o : Int) + 0) = (o : Int) := by rw [IntWalk.i64_in _ ⟨by omega, by have := HTS.out; omega⟩]; omega
        have wo' : IntKind.i64.wrap (o : Int) = (o : Int) := by rw [IntWalk.i64_in _ ⟨by omega, by have := HTS.out; omega⟩]
        have wo1 : IntKind.i64.wrap ((o : Int) + 1) = ((o + 1 : Nat) : Int) := by rw [IntWalk.i64_in _ ⟨by omega, by have := HTS.out; omega⟩]; omega
        have ho0 : ¬ (o : Int) < 0 := by omega
        have c1 : ∀ w, (Instr.slice 9 (.string t) none (some (.int .i64 (o : Int))) none).run Tryd.prog w = .ok (.string (t.extract 0 o)) w := fun w => by
          have := run_slice_string_h (P := Tryd.prog) w 9 t Tryd.underlying9 .i64 (o : Int) (by omega) (by omega); simpa using this
        have c2 : ∀ w, (Instr.slice 9 (.string t) (some (.int .i64 ((o + 1 : Nat) : Int))) none none).run Tryd.prog w = .ok (.string (t.extract (o + 1) t.size)) w := fun w => by
          have := run_slice_string_l (P := Tryd.prog) w 9 t Tryd.underlying9 .i64 ((o + 1 : Nat) : Int) (by omega) (by omega); simpa using this
        have HT2 := Lib.hid (show (t.extract (o + 1) t.size).size ≤ 100000 by have := extract_le t (o + 1) t.size; have := HTS.out; omega)
        obtain ⟨o1, ho1⟩ : ∃ k, k = o + 1 := ⟨_, rfl⟩
        rw [← ho1] at wo1 c2 HSP HT2
        obtain ⟨ta, hta⟩ : ∃ a, a = t.extract 0 o := ⟨_, rfl⟩
        obtain ⟨tb, htb⟩ : ∃ a, a = t.extract o1 t.size := ⟨_, rfl⟩
        rw [← hta] at c1 HSP
        rw [← htb] at c2 HSP HT2
        have fz := own_unfrozen HOW.out i
        have hi1 : (i : Int) < (N : Int) := by have := HIN.out; have := HNN.out; omega
        have hi0 : (0 : Int) ≤ (i : Int) := by omega
        have wi1 : IntKind.i64.wrap ((i : Int) + 1) = ((i + 1 : Nat) : Int) := by rw [IntWalk.i64_in _ ⟨by omega, by have := HIN.out; have := HCL.out; have := HS.out; omega⟩]; omega
        obtain ⟨u, hu⟩ := own_cell HOW.out (k := i) (by have := HIN.out; have := HNN.out; omega)
        have hset := owns_set HOW.out i (.string ta)
        obtain ⟨w3, hw3⟩ : ∃ w', w' = wr.setCell ⟨gA, i, none⟩ (.string ta) := ⟨_, rfl⟩
        rw [← hw3] at hset
        have k3 : Kept (fun k => k = gA) wr w3 := by rw [hw3]; exact (Kept.refl (fun k => k = gA) wr).setCell (p := ⟨gA, i, none⟩) (fun _ => rfl) _
        have HK3 := Lib.hid (HKW.out.newer k3 (fun k e => by rw [e]; exact (ownsRow_lt HOW.out rfl).2))
        have HSET := Lib.hid hset
        have HXS := Lib.hid (show (xs.set i (.string ta)).take (i + 1) = (Pt ++ [ta]).map Value.string by
          rw [List.map_append, ← HTK.out, List.take_add_one, List.getElem?_set_self (by have := own_len HOW.out; have := HIN.out; have := HNN.out; omega), List.take_set_of_le (Nat.le_refl _)]
          rfl)
        have HW3 := Lib.hid hw3
        clear h hd hsp hiC hnx hsp2 ho ho1 hta htb hset hw3 k3
        go_wp2_with fail
        refine (HIX2.out _).mono ?_
        rintro e w' ⟨rfl, rfl⟩
        go_upto_region 15 with fail
        rw [← HW3.out]
        clear hu fz
        go_wp2
        go_roundg (C - (i + 1))
        case measure => have := HD.out; omega
        case rel => exact ⟨i + 1, tb, Pt ++ [ta], _, HD.out, rfl, rfl, rfl, by rw [List.length_append, HPL.out]; rfl, HSET.out, HXS.out, HSP.out, HT2.out, HK3.out⟩
    · obtain rfl : C = i := by omega
      have HFIN := Lib.hid (show Pt ++ [t] = splitS c C s by rw [hsp, Nat.sub_self]; rfl)
      have hdi : ¬ (C : Int) < (C : Int) := by omega
      clear hd hsp hiC
      have hpl := HPL.out
      have hfz : ∀ k, wr.frozen? ⟨gA, k, none⟩ = false := own_unfrozen HOW.out
      have hi1 : (C : Int) < (N : Int) := by have := HIN.out; have := HNN.out; omega
      have hi0 : (0 : Int) ≤ (C : Int) := by omega
      have wi1 : IntKind.i64.wrap ((C : Int) + 1) = ((C + 1 : Nat) : Int) := by rw [IntWalk.i64_in _ ⟨by omega, by have := HIN.out; have := HCL.out; have := HS.out; omega⟩]; omega
      obtain ⟨u, hu⟩ := own_cell HOW.out (k := C) (by have := HIN.out; have := HNN.out; omega)
      have fz := hfz C
      have hcut : ∀ w, _ := fun w => run_cutHn (P := Tryd.prog) Tryd.underlying45 hiS (some ⟨gA, 0, none⟩) N N (C + 1) (by have := HIN.out; have := HNN.out; omega) w
      have hcutA : ∀ w, _ := fun w => run_cutHnAt (P := Tryd.prog) Tryd.underlying45 hiS (some ⟨gA, 0, none⟩) N N (C + 1) (by have := HIN.out; have := HNN.out; omega) w
      have hset := owns_set HOW.out C (.string t)
      obtain ⟨w3, hw3⟩ : ∃ w', w' = wr.setCell ⟨gA, C, none⟩ (.string t) := ⟨_, rfl⟩
      rw [← hw3] at hset
      have k3 : Kept (fun k => k = gA) wr w3 := by rw [hw3]; exact (Kept.refl (fun k => k = gA) wr).setCell (p := ⟨gA, C, none⟩) (fun _ => rfl) _
      have HK3 := Lib.hid (HKW.out.newer k3 (fun k e => by rw [e]; exact (ownsRow_lt HOW.out rfl).2))
      have hsl := (SlAt.ofOwn hset).takeH (k := C + 1) (by have := HIN.out; have := HNN.out; omega)
      have hxs : (xs.set C (.string t)).take (C + 1) = (Pt ++ [t]).map Value.string := by
        rw [List.map_append, ← HTK.out, List.take_add_one, List.getElem?_set_self (by have := own_len HOW.out; have := HIN.out; have := HNN.out; omega), List.take_set_of_le (Nat.le_refl _)]
        rfl
      rw [hxs] at hsl
      have HSL := Lib.hid hsl
      have HW3 := Lib.hid hw3
      obtain ⟨i1, hi1'⟩ : ∃ k, k = C + 1 := ⟨_, rfl⟩
      rw [← hi1'] at wi1 hcut hcutA HSL
      have HI1 := Lib.hid hi1'
      clear hpl hfz hset hw3 k3 hsl hxs hi1'
      go_upto_region 18 with fail
      rw [← HW3.out]
      go_wp2
      go_ret
      have hlen : (Pt ++ [t]).length = i1 := by rw [List.length_append, HPL.out, HI1.out]; rfl
      have hNi : i1 = N := by have h1 := HI1.out; have h2 := HNN.out; omega
      have hs := HSL.out
      rw [hNi] at hs hlen
      rw [← HFIN.out, hlen]
      exact ⟨_, _, rfl, hs, Nat.le_refl _, HK3.out⟩
theorem split1_any (s : ByteArray) (c : UInt8) (w : World) (hs : s.size ≤ 100000) :
    Calls Tryd.prog 26 #[.string s, .string { data := #[c] }] w fun e w' => ∃ a cp, e = .returned (.slice a (splitA c s).length cp) ∧ SlAt w' (.slice a (splitA c s).length cp) ((splitA c s).map Value.string) ∧ (splitA c s).length ≤ cp ∧ Kept (fun _ => False) w w' := by
  have HG := Lib.hid (genSplit1_any s c w hs)
  clear hs
  go_enter Tryd.func26, Tryd.ntmps26
  go_wp2_with fail
  refine HG.out.mono ?_
  rintro e w1 ⟨a, cp, rfl, h, h2, k⟩
  go_wp2
  go_ret
  exact ⟨a, cp, rfl, h, h2, k⟩
end Go.Proofs.YtkgjkcfjkjkflaaDoor

