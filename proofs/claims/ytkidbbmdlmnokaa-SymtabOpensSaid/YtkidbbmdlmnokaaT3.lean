/- package symtab, layer 34: Build. -/
import Derived.Test.YtkidbbmdlmnokaaT2
import Derived.Test.YtkidbbmdlmnokaaSN
namespace Go.Proofs.Ytkidbbmdlmnokaa
open Go.RowKit
attribute [local go_sem ↓] Go.wp_at_zero Go.wp_at_succ

theorem run_from34 {P : Program} {t : TypeId} (h : P.underlying t = some .string) (s : ByteArray) (i : Nat) (hi : i ≤ s.size) (w : World) : (Instr.slice t (.string s) (some (.int .i64 (i : Int))) none none).run P w = .ok (.string (s.extract i s.size)) w := by
  have := run_slice_string_l (P := P) w t s h .i64 (i : Int) (by omega) (by omega); simpa using this
/-- Texts lie in a row. -/
def StrsAt (w : World) (v : Value) (L : List ByteArray) : Prop := SlAt w v (L.map Value.string)
theorem StrsAt.kept {w w' : World} {v : Value} {L : List ByteArray} (h : StrsAt w v L) (k : Kept (fun _ => False) w w') : StrsAt w' v L := SlAt.kept h k (fun _ _ x => x)
theorem StrsAt.cell {w : World} {ao : Option Addr} {n c : Nat} {L : List ByteArray} (h : StrsAt w (.slice ao n c) L) {i : Nat} {s : ByteArray} (hi : L[i]? = some s) : ∃ g off, ao = some ⟨g, off, none⟩ ∧ w.cell? ⟨g, off + i, none⟩ = some (.string s) := SlAt.elem h (by rw [List.getElem?_map, hi]; rfl)
/-- What Build leaves. -/
def BuildTo (w : World) (r : Int × List Int) (e : Ending) (w' : World) : Prop := ∃ v, e = .returned (.tuple #[v, .int .i64 r.1]) ∧ w'.ownsRow w.heap.size 5 1 v r.2.length (u8s r.2) ∧ Kept (fun _ => False) w w'
theorem ahead_succ {L : List ByteArray} {i : Nat} {s : ByteArray} (h : L[i]? = some s) : aheadS L (i + 1) = s := by
  unfold aheadS
  rw [if_neg (by omega), Nat.add_sub_cancel, List.getD_eq_getElem?_getD, h]; rfl
theorem drop_str {L : List ByteArray} {i : Nat} {s : ByteArray} (h : L[i]? = some s) : L.drop i = s :: L.drop (i + 1) := by
  have hj := (List.getElem?_eq_some_iff.1 h).1
  rw [List.drop_eq_getElem_cons hj]
  rw [List.getElem?_eq_getElem hj] at h
  injection h with h; rw [h]

set_option maxHeartbeats 8000000 in
set_option maxRecDepth 100000 in
theorem build_any (ao : Option Addr) (cp : Nat) (L : List ByteArray) (w : World) (hL : StrsAt w (.slice ao L.length cp) L) (hl : L.length ≤ 1000000) (hs : ∀ s ∈ L, s.size ≤ 1000000) :
    Calls Try.prog 32 #[.slice ao L.length cp] w fun e w' => BuildTo w (buildS L) e w' := by
  by_cases h4 : 4096 < L.length
  · have HX : Hid (buildS L = (4, [])) := Lib.hid (if_pos h4)
    have q1 : (4096 : Int) < (L.length : Int) := by omega
    have q1' : decide (4096 < L.length) = true := decide_eq_true h4
    clear h4 hl hs hL
    go_enter Try.func32, Try.ntmps32
    go_wp2
    go_ret2
    rw [HX.out]
    exact ⟨_, rfl, World.ownsRow_nil _ _ _ _, Kept.refl _ _⟩
  have HX : Hid (buildS L = preB (numB (L.length : Nat)) (bldL 0 ByteArray.empty L)) := Lib.hid (if_neg h4)
  have q1 : ¬ (4096 : Int) < (L.length : Int) := by omega
  have q1' : decide (4096 < L.length) = false := decide_eq_false h4
  have HL := Lib.hid hL
  have HSZ := Lib.hid hs
  have HLL := Lib.hid (show L.length ≤ 4096 by omega)
  have wl : IntKind.u64.wrap (L.length : Int) = (L.length : Int) := by rw [IntKind.wrap_u64]; omega
  have HN0 := Lib.hid (numB_len ((L.length : Nat) : Int))
  clear hL hs h4 hl
  go_enter Try.func32, Try.ntmps32
  go_wp2_with fail
  refine (wkNew_any _).mono ?_
  rintro e w1 ⟨p, rfl, hw1⟩
  have HW1 := Lib.hid hw1
  clear hw1
  go_wp2_with fail
  refine (wkNum_any (L.length : Int) HW1.out (by omega) (by have := HLL.out; omega) (by simp)).mono ?_
  rintro e w2 ⟨rfl, hw2⟩
  rw [List.nil_append] at hw2
  have HW2 := Lib.hid hw2
  clear hw2 wl
  go_upto_region 7 with fail
  go_loopg [20, 5] L.length (fun G s20 s5 wr => ∃ i : Nat, i ≤ L.length ∧ G = L.length - i ∧ s20 = .int .i64 i ∧ s5 = .string (aheadS L i) ∧ ∃ acc, acc.length ≤ 418 * i ∧ WK w wr p (numB (L.length : Nat) ++ acc) ∧ bldL 0 ByteArray.empty L = preB acc (bldL i (aheadS L i) (L.drop i)) ∧ (aheadS L i).size ≤ 400)
  case atStart => exact ⟨0, Nat.zero_le _, rfl, rfl, rfl, [], by simp, by rw [List.append_nil]; exact HW2.out, by rw [List.drop_zero]; exact (preB_nil (bldL_fault _ _ _)).symm, by simp [aheadS]⟩
  case round =>
    obtain ⟨i, hin, rfl, rfl, rfl, acc, hacc, hw, hb, hah⟩ := hrel
    have HW := Lib.hid hw
    have HB := Lib.hid hb
    have HAC := Lib.hid (And.intro hacc hah)
    have HLR := Lib.hid (HL.out.kept hw.old)
    clear hw hb hacc
    by_cases hd : i < L.length
    · have hdi : (i : Int) < (L.length : Int) := by omega
      have hi0 : (0 : Int) ≤ (i : Int) := by omega
      have hg := List.getElem?_eq_getElem hd
      have hsz := HSZ.out L[i] (List.getElem_mem hd)
      obtain ⟨s, hs⟩ : ∃ s, s = L[i] := ⟨_, rfl⟩
      rw [← hs] at hg hsz
      obtain ⟨g, o, ha, hcell⟩ := HLR.out.cell hg
      subst ha
      have HG := Lib.hid hg
      have HD := Lib.hid hd
      have hasz : (aheadS L i).size ≤ 1000000 := by omega
      obtain ⟨A, hA⟩ : ∃ A, A = aheadS L i := ⟨_, rfl⟩
      have HA := Lib.hid hA
      rw [← hA] at hasz ⊢
      have wi : IntKind.i64.wrap ((i : Int) + 1) = ((i + 1 : Nat) : Int) := by rw [IntWalk.i64_in _ ⟨by omega, by have := HLL.out; omega⟩]; omega
      clear hg hs hA hah hin hd
      by_cases hbig : 400 < s.size
      · have HR : Hid (buildS L = (4, [])) := Lib.hid (by rw [HX.out, HB.out, drop_str HG.out, bldL_large hbig]; rfl)
        have q4 : (400 : Int) < (s.size : Int) := by omega
        have q4' : decide (400 < s.size) = true := decide_eq_true hbig
        clear hbig
        go_wp2
        go_ret2
        rw [HR.out]
        exact ⟨_, rfl, World.ownsRow_nil _ _ _ _, HW.out.old⟩
      · have q4 : ¬ (400 : Int) < (s.size : Int) := by omega
        have q4' : decide (400 < s.size) = false := decide_eq_false hbig
        have HBG := Lib.hid hbig
        by_cases hor : 0 < i ∧ leS s A = true
        · have HR : Hid (buildS L = (9, [])) := Lib.hid (by rw [HX.out, HB.out, drop_str HG.out, ← HA.out, bldL_order hbig hor]; rfl)
          have q5 : (0 : Int) < (i : Int) := by have := hor.1; omega
          have q5' : decide (0 < i) = true := decide_eq_true hor.1
          have q6 : (Op.bytesLess s.toList A.toList || s.toList == A.toList) = true := hor.2
          clear hbig hor
          go_wp2
          go_ret2
          rw [HR.out]
          exact ⟨_, rfl, World.ownsRow_nil _ _ _ _, HW.out.old⟩
        · have hst := bldL_step (t := L.drop (i + 1)) hbig hor
          have HS := Lib.hid (fun w => shared_any i A s w (by have := HLL.out; have := HD.out; omega) hasz hsz)
          have hshr := shr_le i A s
          have hrb : recB i A s = numB (shr i A s : Nat) ++ numB ((s.extract (shr i A s) s.size).size : Nat) ++ strB (s.extract (shr i A s) s.size) := rfl
          have hrl := recB_len i A s (by omega)
          have hcut := run_from34 (P := Try.prog) Try.underlying9 s (shr i A s) hshr.1
          have hxs : (s.extract (shr i A s) s.size).size ≤ 400 := by rw [size_from]; omega
          obtain ⟨n, hn⟩ : ∃ n, n = shr i A s := ⟨_, rfl⟩
          rw [← hn] at HS hrb hcut hshr hxs
          obtain ⟨x, hx⟩ : ∃ x, x = s.extract n s.size := ⟨_, rfl⟩
          rw [← hx] at hrb hcut hxs
          have HXS := Lib.hid hxs
          have HRB := Lib.hid (And.intro hrb hrl)
          have HST := Lib.hid hst
          have hn0 : (0 : Int) ≤ (n : Int) := by omega
          have hns : (n : Int) ≤ (s.size : Int) := by omega
          have wn : IntKind.u64.wrap (n : Int) = (n : Int) := by rw [IntKind.wrap_u64]; omega
          have HNB := Lib.hid (show n ≤ 400 by omega)
          have horc : (¬ (0 : Int) < (i : Int)) ∨ ((0 : Int) < (i : Int) ∧ (Op.bytesLess s.toList A.toList || s.toList == A.toList) = false) := by
            by_cases h0 : 0 < i
            · refine .inr ⟨by omega, ?_⟩
              show leS s A = false
              rw [← Bool.not_eq_true]
              exact fun e => hor ⟨h0, e⟩
            · exact .inl (by omega)
          clear hst hrb hrl hn hx hshr hor hbig hasz hsz hxs
          rcases horc with q5 | ⟨q5, q6⟩
          all_goals
            go_wp2_with fail
            refine (HS.out _).mono ?_
            rintro e w3 ⟨rfl, k3⟩
            have HW3 := Lib.hid (HW.out.kept k3)
            clear k3
            go_wp2_with fail
            refine (wkNum_any (n : Int) HW3.out (by omega) (by have := HNB.out; omega) (by rw [List.length_append]; have := HN0.out; have := HAC.out.1; have := HLL.out; have := HD.out; omega)).mono ?_
            rintro e w4 ⟨rfl, hw4⟩
            have HW4 := Lib.hid hw4
            clear hw4
            go_wp2_with fail
            refine (wkText_any x HW4.out (by have := HXS.out; omega) (by rw [List.length_append, List.length_append]; have := numB_len (n : Int); have := HN0.out; have := HAC.out.1; have := HLL.out; have := HD.out; omega)).mono ?_
            rintro e w5 ⟨rfl, hw5⟩
            have HW5 : Hid (WK w w5 p (numB (L.length : Nat) ++ (acc ++ recB i A s))) := Lib.hid (by
              rw [HRB.out.1]
              rw [List.append_assoc, List.append_assoc, List.append_assoc] at hw5
              rw [List.append_assoc]
              exact hw5)
            clear hw5
            go_wp2
            go_roundg (L.length - (i + 1))
            case measure => have := HD.out; omega
            case rel =>
              refine ⟨i + 1, HD.out, rfl, rfl, by rw [ahead_succ HG.out], acc ++ recB i A s, by rw [List.length_append]; have := HAC.out.1; have := HRB.out.2; omega, HW5.out, ?_, by rw [ahead_succ HG.out]; have := HBG.out; omega⟩
              rw [HB.out, drop_str HG.out, ← HA.out, HST.out, preB_preB, ahead_succ HG.out]
    · obtain rfl : i = L.length := by omega
      have hdi : ¬ (L.length : Int) < (L.length : Int) := by omega
      have hdi' : decide (L.length < L.length) = false := decide_eq_false hd
      have HR : Hid (buildS L = (0, numB (L.length : Nat) ++ acc)) := Lib.hid (by
        rw [HX.out, HB.out, List.drop_length]
        unfold bldL preB
        simp)
      clear hd hin
      go_wp2_with fail
      refine (wkBytes_any HW.out (by rw [List.length_append]; have := HN0.out; have := HAC.out.1; have := HLL.out; omega)).mono ?_
      rintro e w3 ⟨v, rfl, ho, hk⟩
      have HO := Lib.hid (And.intro ho hk)
      clear ho hk
      go_wp2
      go_ret2
      rw [HR.out]
      exact ⟨_, rfl, HO.out.1, HO.out.2⟩
end Go.Proofs.Ytkidbbmdlmnokaa
