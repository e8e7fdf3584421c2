/- Layer 11: attributes in memory; Light, Same; has. -/
import Derived.Test.YtkgjkcfjkjkflaaDoorA2
import Derived.Test.YtkgjkcfjkjkflaaDoorG2
import Derived.Test.YtkgjkcfjkjkflaaDoorG3
namespace Go.Proofs.YtkgjkcfjkjkflaaDoor
open Go.RowKit
attribute [local go_sem ↓] Go.wp_at_zero Go.wp_at_succ

/-- An attribute. -/
structure Pr where
  k : ByteArray
  v : ByteArray
/-- An attribute lies at a place. -/
structure PElt (W : World) (g o : Nat) (p : Pr) : Prop where
  c0 : W.cell? ⟨g, o, none⟩ = some (.string p.k)
  c1 : W.cell? ⟨g, o + 1, none⟩ = some (.string p.v)
theorem PElt.keptS {S : Nat → Prop} {W w : World} {g o : Nat} {p : Pr} (h : PElt W g o p) (k : Kept S W w) (hn : ¬ S g) : PElt w g o p := ⟨k.cell h.c0 hn, k.cell h.c1 hn⟩
/-- Attributes lie in a row. -/
def PsAt (W : World) (ao : Option Addr) (L : List Pr) : Prop := 0 < L.length → ∃ g o, ao = some ⟨g, o, none⟩ ∧ ∀ i p, L[i]? = some p → PElt W g (o + i * 2) p
theorem PsAt.keptS {S : Nat → Prop} {W w : World} {ao : Option Addr} {L : List Pr} (h : PsAt W ao L) (k : Kept S W w) (hn : ∀ a, ao = some a → 0 < L.length → ¬ S a.block) : PsAt w ao L := by
  intro h0
  obtain ⟨g, o, e, hr⟩ := h h0
  exact ⟨g, o, e, fun i p hi => (hr i p hi).keptS k (hn _ e h0)⟩
theorem PsAt.kept {W w : World} {ao : Option Addr} {L : List Pr} (h : PsAt W ao L) (k : Kept (fun _ => False) W w) : PsAt w ao L := h.keptS k (fun _ _ _ x => x)
theorem PsAt.take {W : World} {ao : Option Addr} {L : List Pr} (h : PsAt W ao L) (n : Nat) : PsAt W ao (L.take n) := by
  intro h0
  obtain ⟨g, o, e, hr⟩ := h (by rw [List.length_take] at h0; omega)
  refine ⟨g, o, e, fun i p hi => hr i p ?_⟩
  rw [List.getElem?_take] at hi
  split at hi
  · exact hi
  · cases hi
/-- No text is longer than the machine's numbers, and none of a list. -/
def Sh (n : Nat) (L : List Pr) : Prop := ∀ p ∈ L, p.k.size ≤ n ∧ p.v.size ≤ n

/-- Few and short. -/
def lightL (L : List Pr) : Bool := decide (L.length ≤ 20 ∧ ∀ i, i < L.length → ((L.getD i ⟨ByteArray.empty, ByteArray.empty⟩).k.size ≤ 100 ∧ (L.getD i ⟨ByteArray.empty, ByteArray.empty⟩).v.size ≤ 100))
theorem getD_pr {L : List Pr} {i : Nat} {p : Pr} (h : L[i]? = some p) (d : Pr) : L.getD i d = p := by rw [List.getD_eq_getElem?_getD, h]; rfl
theorem lightL_true {L : List Pr} (h : lightL L = true) : L.length ≤ 20 ∧ Sh 100 L := by
  have h := of_decide_eq_true h
  refine ⟨h.1, fun p hp => ?_⟩
  obtain ⟨i, hi, rfl⟩ := List.getElem_of_mem hp
  have := h.2 i hi
  rw [getD_pr (List.getElem?_eq_getElem hi)] at this
  exact this

set_option maxHeartbeats 2000000 in
theorem refLight11_any (ao : Option Addr) (c : Nat) (L : List Pr) (w : World) (hr : PsAt w ao L) (hl : L.length ≤ 9223372036854775807) :
    Calls Tryd.prog 8 #[.slice ao L.length c] w fun e w' => e = .returned (.bool (lightL L)) ∧ w = w' := by
  by_cases h1 : 20 < L.length
  · have HF : Hid (lightL L = false) := Lib.hid (decide_eq_false (by omega))
    have q1 : (20 : Int) < (L.length : Int) := by omega
    have q2 : decide (20 < L.length) = true := decide_eq_true h1
    go_enter Tryd.func8, Tryd.ntmps8
    go_wp2
    go_ret
    exact ⟨by rw [HF.out]; rfl, rfl⟩
  · have q1 : ¬ (20 : Int) < (L.length : Int) := by omega
    have q2 : decide (20 < L.length) = false := decide_eq_false h1
    have HR := Lib.hid hr
    have HL := Lib.hid h1
    obtain ⟨n, hn⟩ : ∃ n, n = L.length := ⟨_, rfl⟩
    have HN := Lib.hid hn
    rw [← hn] at q1 q2 ⊢
    clear hr hl h1 hn
    go_enter Tryd.func8, Tryd.ntmps8
    go_wp2
    go_loopg [3] n (fun g s3 wr => ∃ i : Nat, i ≤ n ∧ g = n - i ∧ s3 = .int .i64 i ∧ w = wr ∧ ∀ j, j < i → ((L.getD j ⟨ByteArray.empty, ByteArray.empty⟩).k.size ≤ 100 ∧ (L.getD j ⟨ByteArray.empty, ByteArray.empty⟩).v.size ≤ 100))
    case atStart => exact ⟨0, Nat.zero_le _, rfl, rfl, rfl, fun j hj => by omega⟩
    case round =>
      obtain ⟨i, hin, rfl, rfl, rfl, ha⟩ := hrel
      have HA := Lib.hid ha
      clear ha
      by_cases hd : i < n
      · have hdi : (i : Int) < (n : Int) := by omega
        have hi0 : (0 : Int) ≤ (i : Int) := by omega
        have HD := Lib.hid hd
        have wi : IntKind.i64.wrap ((i : Int) + 1) = ((i + 1 : Nat) : Int) := by rw [IntWalk.i64_in _ ⟨by omega, by have := HL.out; have := HN.out; omega⟩]; omega
        have hiL : i < L.length := by have := HN.out; omega
        obtain ⟨gb, ob, rfl, hrec⟩ := HR.out (by omega)
        have hel := hrec i L[i] (List.getElem?_eq_getElem hiL)
        have hgd := getD_pr (List.getElem?_eq_getElem hiL) ⟨ByteArray.empty, ByteArray.empty⟩
        obtain ⟨P, hP⟩ : ∃ p, p = L[i] := ⟨_, rfl⟩
        rw [← hP] at hel hgd
        obtain ⟨x0, x1⟩ := hel
        clear hd hin hrec hP
        by_cases hk : P.k.size ≤ 100
        · have k1 : ¬ (100 : Int) < (P.k.size : Int) := by omega
          have k2 : decide (100 < P.k.size) = false := decide_eq_false (by omega)
          by_cases hv : P.v.size ≤ 100
          · have k3 : ¬ (100 : Int) < (P.v.size : Int) := by omega
            have k4 : decide (100 < P.v.size) = false := decide_eq_false (by omega)
            have HOK := Lib.hid (show (L.getD i ⟨ByteArray.empty, ByteArray.empty⟩).k.size ≤ 100 ∧ (L.getD i ⟨ByteArray.empty, ByteArray.empty⟩).v.size ≤ 100 by rw [hgd]; exact ⟨hk, hv⟩)
            clear hk hv hgd
            go_wp2
            go_roundg (n - (i + 1))
            case measure => have := HD.out; omega
            case rel => exact ⟨i + 1, HD.out, rfl, rfl, rfl, all_succ HA.out HOK.out⟩
          · have k3 : (100 : Int) < (P.v.size : Int) := by omega
            have k4 : decide (100 < P.v.size) = true := decide_eq_true (by omega)
            have HF : Hid (lightL L = false) := Lib.hid (decide_eq_false (fun e => by have h := (e.2 i hiL).2; rw [hgd] at h; omega))
            clear hk hv hgd hiL
            go_wp2
            go_ret
            exact ⟨by rw [HF.out]; rfl, rfl⟩
        · have k1 : (100 : Int) < (P.k.size : Int) := by omega
          have k2 : decide (100 < P.k.size) = true := decide_eq_true (by omega)
          have HF : Hid (lightL L = false) := Lib.hid (decide_eq_false (fun e => by have h := (e.2 i hiL).1; rw [hgd] at h; omega))
          clear hk hgd hiL
          go_wp2
          go_ret
          exact ⟨by rw [HF.out]; rfl, rfl⟩
      · obtain rfl : n = i := by omega
        have HF : Hid (lightL L = true) := Lib.hid (decide_eq_true ⟨by have := HL.out; omega, by rw [← HN.out]; exact HA.out⟩)
        clear hd
        go_wp2
        go_ret
        exact ⟨by rw [HF.out]; rfl, rfl⟩

/-- Are two attributes one? -/
def eqP (a b : Pr) : Bool := (a.k.toList == b.k.toList) && (a.v.toList == b.v.toList)
theorem bytes_eq {a b : ByteArray} (h : a.toList = b.toList) : a = b := by
  cases a; cases b
  rw [ByteArray.toList_eq, ByteArray.toList_eq] at h
  simp only at h
  rw [Array.toList_inj.1 h]
theorem beq_bytes (a b : ByteArray) : (a.toList == b.toList) = decide (a = b) := by
  by_cases h : a = b
  · rw [h, decide_eq_true rfl]; exact beq_iff_eq.2 rfl
  · rw [decide_eq_false h]; exact beq_eq_false_iff_ne.2 (fun e => h (bytes_eq e))
theorem eqP_iff (a b : Pr) : eqP a b = true ↔ a = b := by
  unfold eqP
  rw [beq_bytes, beq_bytes]
  cases a; cases b
  simp
/-- has's function. -/
theorem hasFn_any (kb : Nat) (key : ByteArray) (p : Pr) (w : World) (hk : w.cell? ⟨kb, 0, none⟩ = some (.string key)) :
    Calls Tryd.prog 35 #[.agg #[.string p.k, .string p.v], .pointer (some ⟨kb, 0, none⟩)] w fun e w' => e = .returned (.bool (p.k.toList == key.toList)) ∧ Kept (fun _ => False) w w' := by
  have ha := fun o => ((Kept.refl (fun _ => False) w).alloc o).cell hk (fun x => x)
  go_enter Tryd.func35, Tryd.ntmps35
  go_wp2
  go_ret
  exact ⟨rfl, (Kept.refl _ _).alloc _⟩
end Go.Proofs.YtkgjkcfjkjkflaaDoor
