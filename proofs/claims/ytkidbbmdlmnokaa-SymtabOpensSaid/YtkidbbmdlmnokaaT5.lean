/- Layer 34: tables in memory; Len, At; the document's Few, Same. -/
import Derived.Test.YtkidbbmdlmnokaaT3
namespace Go.Proofs.Ytkidbbmdlmnokaa
open Go.RowKit
attribute [local go_sem ↓] Go.wp_at_zero Go.wp_at_succ

/-- A table in memory. -/
def TabAt (w : World) (tb : Nat) (L : List ByteArray) : Prop := ∃ ao cp, w.heap[tb]? = some (.cells #[.slice ao L.length cp] 104 (0, 0)) ∧ StrsAt w (.slice ao L.length cp) L ∧ L.length ≤ cp
theorem TabAt.kept {w w' : World} {tb : Nat} {L : List ByteArray} (h : TabAt w tb L) (k : Kept (fun _ => False) w w') : TabAt w' tb L := by
  obtain ⟨ao, cp, hb, hs, hc⟩ := h
  exact ⟨ao, cp, k.same hb (fun x => x), hs.kept k, hc⟩
theorem tlen_any (tb : Nat) (L : List ByteArray) (w : World) (hT : TabAt w tb L) :
    Calls Try.prog 35 #[.pointer (some ⟨tb, 0, none⟩)] w fun e w' => e = .returned (.int .i64 (L.length : Int)) ∧ w = w' := by
  obtain ⟨ao, cp, hb, _, _⟩ := hT
  have c0 : w.cell? ⟨tb, 0, none⟩ = some (.slice ao L.length cp) := by rw [cell_of_row _ _ _ _ _ _ hb]; rfl
  clear hb
  go_enter Try.func35, Try.ntmps35
  go_wp2
  go_ret
  exact ⟨rfl, rfl⟩
/-- What At answers. -/
def atS (L : List ByteArray) (i : Int) : ByteArray × Bool := if i < 0 ∨ (L.length : Int) ≤ i then (ByteArray.empty, false) else (L.getD i.toNat ByteArray.empty, true)
set_option maxHeartbeats 1000000 in
theorem tat_any (tb : Nat) (L : List ByteArray) (i : Int) (w : World) (hT : TabAt w tb L) (hi : -9223372036854775808 ≤ i ∧ i ≤ 9223372036854775807) :
    Calls Try.prog 39 #[.pointer (some ⟨tb, 0, none⟩), .int .i64 i] w fun e w' => e = .returned (.tuple #[.string (atS L i).1, .bool (atS L i).2]) ∧ w = w' := by
  obtain ⟨ao, cp, hb, hs, _⟩ := hT
  have c0 : w.cell? ⟨tb, 0, none⟩ = some (.slice ao L.length cp) := by rw [cell_of_row _ _ _ _ _ _ hb]; rfl
  by_cases h0 : i < 0
  · have HX : Hid (atS L i = (ByteArray.empty, false)) := Lib.hid (if_pos (.inl h0))
    clear hb hs hi
    go_enter Try.func39, Try.ntmps39
    go_wp2
    go_ret2
    exact ⟨by rw [HX.out]; rfl, rfl⟩
  by_cases h1 : (L.length : Int) ≤ i
  · have HX : Hid (atS L i = (ByteArray.empty, false)) := Lib.hid (if_pos (.inr h1))
    clear hb hs hi
    go_enter Try.func39, Try.ntmps39
    go_wp2
    go_ret2
    exact ⟨by rw [HX.out]; rfl, rfl⟩
  · obtain ⟨j, rfl⟩ : ∃ j : Nat, i = (j : Int) := ⟨i.toNat, by omega⟩
    have hj : j < L.length := by omega
    have hg := List.getElem?_eq_getElem hj
    have HX : Hid (atS L (j : Int) = (L[j], true)) := Lib.hid (by unfold atS; rw [if_neg (by omega), Int.toNat_natCast, List.getD_eq_getElem?_getD, hg]; rfl)
    obtain ⟨s, hss⟩ : ∃ s, s = L[j] := ⟨_, rfl⟩
    rw [← hss] at hg HX
    obtain ⟨g, o, ha, hcell⟩ := hs.cell hg
    subst ha
    have hjl : (j : Int) < (L.length : Int) := by omega
    have hj0 : (0 : Int) ≤ (j : Int) := by omega
    clear hb hs hi hg hss hj
    go_enter Try.func39, Try.ntmps39
    go_wp2
    go_ret2
    exact ⟨by rw [HX.out]; rfl, rfl⟩
/-- Few and short. -/
def fewS (L : List ByteArray) (most : Int) : Bool := decide ((L.length : Int) ≤ most ∧ ∀ s ∈ L, s.size ≤ 500)
set_option maxHeartbeats 2000000 in
theorem few34_any (ao : Option Addr) (cp : Nat) (L : List ByteArray) (most : Int) (w : World) (hL : StrsAt w (.slice ao L.length cp) L) (hl : L.length ≤ 9223372036854775807) (hm : 0 ≤ most ∧ most ≤ 1000) :
    Calls Try.prog 31 #[.slice ao L.length cp, .int .i64 most] w fun e w' => e = .returned (.bool (fewS L most)) ∧ w = w' := by
  by_cases h1 : most < (L.length : Int)
  · have HF : Hid (fewS L most = false) := Lib.hid (decide_eq_false (by omega))
    clear hl hm hL
    go_enter Try.func31, Try.ntmps31
    go_wp2
    go_ret
    exact ⟨by rw [HF.out]; rfl, rfl⟩
  · have HL := Lib.hid hL
    have HM := Lib.hid (show L.length ≤ 1000 by omega)
    have HN := Lib.hid (show (L.length : Int) ≤ most by omega)
    clear hl hm hL
    go_enter Try.func31, Try.ntmps31
    go_upto_region 4 with fail
    go_loopg [5] L.length (fun G s5 wr => ∃ i : Nat, i ≤ L.length ∧ G = L.length - i ∧ s5 = .int .i64 i ∧ w = wr ∧ ∀ s ∈ L.take i, s.size ≤ 500)
    case atStart => exact ⟨0, Nat.zero_le _, rfl, rfl, rfl, by simp⟩
    case round =>
      obtain ⟨i, hin, rfl, rfl, rfl, ha⟩ := hrel
      have HA := Lib.hid ha
      clear ha
      by_cases hd : i < L.length
      · have hdi : (i : Int) < (L.length : Int) := by omega
        have hi0 : (0 : Int) ≤ (i : Int) := by omega
        have wi : IntKind.i64.wrap ((i : Int) + 1) = ((i + 1 : Nat) : Int) := by rw [IntWalk.i64_in _ ⟨by omega, by have := HM.out; omega⟩]; omega
        have hg := List.getElem?_eq_getElem hd
        have hmem := List.getElem_mem hd
        obtain ⟨s, hs⟩ : ∃ s, s = L[i] := ⟨_, rfl⟩
        rw [← hs] at hg hmem
        obtain ⟨g, o, hao, hcell⟩ := HL.out.cell hg
        subst hao
        have HG := Lib.hid (And.intro hg hmem)
        have HD := Lib.hid hd
        clear hg hmem hs hd hin
        by_cases hbig : 500 < s.size
        · have HF : Hid (fewS L most = false) := Lib.hid (decide_eq_false (fun e => by have := e.2 s HG.out.2; omega))
          have q4 : (500 : Int) < (s.size : Int) := by omega
          have q4' : decide (500 < s.size) = true := decide_eq_true hbig
          clear hbig
          go_wp2
          go_ret
          exact ⟨by rw [HF.out]; rfl, rfl⟩
        · have HBG := Lib.hid hbig
          have q4 : ¬ (500 : Int) < (s.size : Int) := by omega
          have q4' : decide (500 < s.size) = false := decide_eq_false hbig
          clear hbig
          go_wp2
          go_roundg (L.length - (i + 1))
          case measure => have := HD.out; omega
          case rel =>
            refine ⟨i + 1, HD.out, rfl, rfl, rfl, fun t ht => ?_⟩
            rw [List.take_add_one, HG.out.1, Option.toList_some, List.mem_append, List.mem_singleton] at ht
            rcases ht with h | h
            · exact HA.out t h
            · rw [h]; have := HBG.out; omega
      · have hdi : ¬ (i : Int) < (L.length : Int) := by omega
        have hdi' : decide (i < L.length) = false := decide_eq_false hd
        have HF : Hid (fewS L most = true) := Lib.hid (decide_eq_true ⟨HN.out, by have h := HA.out; rwa [List.take_of_length_le (by omega)] at h⟩)
        clear hd hin
        go_wp2
        go_ret
        exact ⟨by rw [HF.out]; rfl, rfl⟩
/-- Are two lists the same? -/
def sameS (A B : List ByteArray) : Bool := decide (A = B)
set_option maxHeartbeats 2000000 in
theorem same34_any (ao bo : Option Addr) (cp dp : Nat) (A B : List ByteArray) (w : World) (hA : StrsAt w (.slice ao A.length cp) A) (hB : StrsAt w (.slice bo B.length dp) B) (hl : A.length ≤ 1000000) :
    Calls Try.prog 36 #[.slice ao A.length cp, .slice bo B.length dp] w fun e w' => e = .returned (.bool (sameS A B)) ∧ Kept (fun _ => False) w w' := by
  by_cases h1 : A.length = B.length
  · have HA := Lib.hid hA
    have HB := Lib.hid hB
    have HL := Lib.hid hl
    have HE := Lib.hid h1
    obtain ⟨n, hn⟩ : ∃ n, n = A.length := ⟨_, rfl⟩
    have hn2 : n = B.length := by omega
    have HN := Lib.hid (And.intro hn hn2)
    rw [← hn, ← hn2]
    have q1 : ((n : Int) != (n : Int)) = false := bneF rfl
    rw [← hn] at HA
    rw [← hn2] at HB
    clear hA hB hl h1 hn hn2
    go_enter Try.func36, Try.ntmps36
    go_upto_region 4 with fail
    go_loopg [5] n (fun G s5 wr => ∃ i : Nat, i ≤ n ∧ G = n - i ∧ s5 = .int .i64 i ∧ Kept (fun _ => False) w wr ∧ A.take i = B.take i)
    case atStart => exact ⟨0, Nat.zero_le _, rfl, rfl, Kept.refl _ _, rfl⟩
    case round =>
      obtain ⟨i, hin, rfl, rfl, hk, ha⟩ := hrel
      have HK := Lib.hid hk
      have HT := Lib.hid ha
      clear ha hk
      by_cases hd : i < n
      · have hdi : (i : Int) < (n : Int) := by omega
        have hi0 : (0 : Int) ≤ (i : Int) := by omega
        have wi : IntKind.i64.wrap ((i : Int) + 1) = ((i + 1 : Nat) : Int) := by rw [IntWalk.i64_in _ ⟨by omega, by have := HL.out; have := HN.out.1; omega⟩]; omega
        have hga := List.getElem?_eq_getElem (l := A) (i := i) (by have := HN.out.1; omega)
        have hgb := List.getElem?_eq_getElem (l := B) (i := i) (by have := HN.out.2; omega)
        obtain ⟨s, hs⟩ : ∃ s, s = A[i]'(by have := HN.out.1; omega) := ⟨_, rfl⟩
        obtain ⟨t, ht⟩ : ∃ s, s = B[i]'(by have := HN.out.2; omega) := ⟨_, rfl⟩
        rw [← hs] at hga
        rw [← ht] at hgb
        obtain ⟨g, o, hao, hca0⟩ := HA.out.cell hga
        obtain ⟨g2, o2, hbo, hcb0⟩ := HB.out.cell hgb
        subst hao
        subst hbo
        have hca := HK.out.cell hca0 (fun x => x)
        have hcb := HK.out.cell hcb0 (fun x => x)
        clear hca0 hcb0
        have HG := Lib.hid (And.intro hga hgb)
        have HD := Lib.hid hd
        clear hga hgb hs ht hd hin
        by_cases hst : s = t
        · have q2 : (s.toList == t.toList) = true := beq_iff_eq.2 (by rw [hst])
          have HST := Lib.hid hst
          clear hst
          go_upto_region 6 with fail
          go_region
          obtain ⟨wd, hwd⟩ : ∃ w', w' = wr.drew := ⟨_, rfl⟩
          rw [← hwd]
          have HKD : Hid (Kept (fun _ => False) w wd) := Lib.hid (by rw [hwd]; exact HK.out.drew)
          clear hwd
          go_wp2
          go_roundg (n - (i + 1))
          case measure => have := HD.out; omega
          case rel =>
            refine ⟨i + 1, HD.out, rfl, rfl, HKD.out, ?_⟩
            rw [List.take_add_one, List.take_add_one, HT.out, HG.out.1, HG.out.2, HST.out]
        · have q2 : (s.toList == t.toList) = false := beq_eq_false_iff_ne.2 (fun e => hst (bl_inj (by unfold bl; rw [e])))
          have HF : Hid (sameS A B = false) := Lib.hid (decide_eq_false (fun e => by
            have h1 := HG.out.1; rw [e, HG.out.2] at h1; injection h1 with h1; exact hst h1.symm))
          clear hst
          go_upto_region 6 with fail
          go_region
          go_wp2
          go_ret
          exact ⟨by rw [HF.out]; rfl, HK.out.drew⟩
      · have hdi : ¬ (i : Int) < (n : Int) := by omega
        have hdi' : decide (i < n) = false := decide_eq_false hd
        have HF : Hid (sameS A B = true) := Lib.hid (decide_eq_true (by
          have h := HT.out
          rwa [List.take_of_length_le (by have := HN.out.1; omega), List.take_of_length_le (by have := HN.out.2; omega)] at h))
        clear hd hin
        go_wp2
        go_ret
        exact ⟨by rw [HF.out]; rfl, HK.out⟩
  · have HF : Hid (sameS A B = false) := Lib.hid (decide_eq_false (fun e => h1 (by rw [e])))
    have q1 : ((A.length : Int) != (B.length : Int)) = true := bneT (by omega)
    clear h1 hl hA hB
    go_enter Try.func36, Try.ntmps36
    go_wp2
    go_ret
    exact ⟨by rw [HF.out]; rfl, Kept.refl _ _⟩
end Go.Proofs.Ytkidbbmdlmnokaa
