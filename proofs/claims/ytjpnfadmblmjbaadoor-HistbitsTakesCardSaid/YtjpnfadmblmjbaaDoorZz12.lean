/- Texts put together: Z9. -/
import Derived.Test.YtjpnfadmblmjbaaDoorZz11
/- Layer 10: histograms in a row in memory; some. -/
namespace Go.Proofs.YtjpnfadmblmjbaaDoor
open Go.RowKit
attribute [local go_sem ↓] Go.wp_at_zero Go.wp_at_succ

/-- A histogram, and where its counts lie. -/
structure HP where
  h : HistV
  a : Option Addr
  c : Nat
  b : Option Addr
  d : Nat
def HP.pv (p : HP) : Value := .slice p.a p.h.pl.length p.c
def HP.nv (p : HP) : Value := .slice p.b p.h.nl.length p.d
/-- A histogram lies at a place. -/
structure HElt (W : World) (g o : Nat) (p : HP) : Prop where
  c0 : W.cell? ⟨g, o, none⟩ = some (.int .i64 p.h.sc)
  c1 : W.cell? ⟨g, o + 1, none⟩ = some (.int .u64 (p.h.ze : Int))
  c2 : W.cell? ⟨g, o + 2, none⟩ = some (.int .i64 p.h.po)
  c3 : W.cell? ⟨g, o + 3, none⟩ = some (.slice p.a p.h.pl.length p.c)
  c4 : W.cell? ⟨g, o + 4, none⟩ = some (.int .i64 p.h.no)
  c5 : W.cell? ⟨g, o + 5, none⟩ = some (.slice p.b p.h.nl.length p.d)
theorem HElt.keptS {S : Nat → Prop} {W w : World} {g o : Nat} {p : HP} (h : HElt W g o p) (k : Kept S W w) (hn : ¬ S g) : HElt w g o p := ⟨k.cell h.c0 hn, k.cell h.c1 hn, k.cell h.c2 hn, k.cell h.c3 hn, k.cell h.c4 hn, k.cell h.c5 hn⟩
/-- Histograms lie in a row. -/
def HsAt (W : World) (ao : Option Addr) (L : List HP) : Prop := 0 < L.length → ∃ g o, ao = some ⟨g, o, none⟩ ∧ ∀ i p, L[i]? = some p → HElt W g (o + i * 6) p
theorem HsAt.keptS {S : Nat → Prop} {W w : World} {ao : Option Addr} {L : List HP} (h : HsAt W ao L) (k : Kept S W w) (hn : ∀ a, ao = some a → 0 < L.length → ¬ S a.block) : HsAt w ao L := by
  intro h0
  obtain ⟨g, o, e, hr⟩ := h h0
  exact ⟨g, o, e, fun i p hi => (hr i p hi).keptS k (hn _ e h0)⟩
theorem HsAt.kept {W w : World} {ao : Option Addr} {L : List HP} (h : HsAt W ao L) (k : Kept (fun _ => False) W w) : HsAt w ao L := h.keptS k (fun _ _ _ x => x)
/-- One that was boxed lies at its box. -/
theorem hsAt_one {w : World} {q : Nat} {p : HP} {T : TypeId} (b : w.heap[q]? = some (.cells #[.int .i64 p.h.sc, .int .u64 (p.h.ze : Int), .int .i64 p.h.po, .slice p.a p.h.pl.length p.c, .int .i64 p.h.no, .slice p.b p.h.nl.length p.d] T (0, 0))) : HsAt w (some ⟨q, 0, none⟩) [p] := by
  intro _
  refine ⟨q, 0, rfl, fun i r hi => ?_⟩
  cases i with
  | zero =>
    simp at hi
    subst hi
    have hc := fun j => cell_of_row _ q j _ _ _ b
    exact ⟨(hc 0).trans rfl, (hc 1).trans rfl, (hc 2).trans rfl, (hc 3).trans rfl, (hc 4).trans rfl, (hc 5).trans rfl⟩
  | succ i => simp at hi

/-- Few and light. -/
def lightP (p : HP) : Bool := decide (p.h.pl.length ≤ 170) && decide (p.h.nl.length ≤ 170)
def someH (L : List HP) : Bool := decide (L.length ≤ 30) && L.all lightP
theorem someH_true {L : List HP} (h : someH L = true) : L.length ≤ 30 ∧ ∀ p ∈ L, p.h.pl.length ≤ 170 ∧ p.h.nl.length ≤ 170 := by
  unfold someH lightP at h
  simpa using h

set_option maxHeartbeats 1000000 in
theorem some10_any (ao : Option Addr) (c : Nat) (L : List HP) (w : World) (hr : HsAt w ao L) (hl : L.length ≤ 9223372036854775807) :
    Calls Tryd.prog 35 #[.slice ao L.length c] w fun e w' => e = .returned (.bool (someH L)) ∧ w = w' := by
  by_cases h1 : 30 < L.length
  · have HF : Hid (someH L = false) := by show _ = _; unfold someH; rw [decide_eq_false (by omega)]; rfl
    have q1 : (30 : Int) < (L.length : Int) := by omega
    go_enter Tryd.func35, Tryd.ntmps35
    go_wp2
    go_ret
    exact ⟨by rw [HF.out]; rfl, rfl⟩
  · have q1 : ¬ (30 : Int) < (L.length : Int) := by omega
    have HF : Hid (someH L = L.all lightP) := by show _ = _; unfold someH; rw [decide_eq_true (by omega)]; rfl
    have HR := Lib.hid hr
    clear hr
    go_enter Tryd.func35, Tryd.ntmps35
    go_wp2
    go_loopg [3] L.length (fun g s3 wr => ∃ i : Nat, i ≤ L.length ∧ g = L.length - i ∧ s3 = .int .i64 i ∧ L.all lightP = (L.drop i).all lightP ∧ w = wr)
    case atStart => exact ⟨0, Nat.zero_le _, rfl, rfl, rfl, rfl⟩
    case round =>
      obtain ⟨i, hil, rfl, rfl, hall, rfl⟩ := hrel
      have HALL := Lib.hid hall
      clear hall
      by_cases hd : i < L.length
      · obtain ⟨g, o, rfl, hrec⟩ := HR.out (by omega)
        have hi' := hrec i L[i] (List.getElem?_eq_getElem hd)
        have hcp := hi'.c3
        have hcn := hi'.c5
        have hdrop : (L.drop i) = L[i] :: L.drop (i + 1) := List.drop_eq_getElem_cons hd
        obtain ⟨r, hrr⟩ : ∃ r, r = L[i] := ⟨_, rfl⟩
        rw [← hrr] at hcp hcn hdrop
        obtain ⟨B, hL⟩ : ∃ B, B = r.h.pl.length := ⟨_, rfl⟩
        obtain ⟨D, hL2⟩ : ∃ B, B = r.h.nl.length := ⟨_, rfl⟩
        rw [← hL] at hcp
        rw [← hL2] at hcn
        have hdi : (i : Int) < (L.length : Int) := by omega
        have hdi0 : (0 : Int) ≤ (i : Int) := by omega
        have HD := Lib.hid hd
        have HDR := Lib.hid hdrop
        have HLL := Lib.hid hL
        have HLM := Lib.hid hL2
        have hP : Hid (lightP r = (decide (B ≤ 170) && decide (D ≤ 170))) := by show _ = _; unfold lightP; rw [← hL, ← hL2]
        by_cases h4 : 170 < B
        · have q2 : (170 : Int) < (B : Int) := by omega
          have H3 : Hid (someH L = false) := by
            show _ = _
            rw [HF.out, HALL.out, HDR.out, List.all_cons, hP.out, decide_eq_false (by omega)]; rfl
          clear hrec hi' hdrop hrr hL hL2 hd
          go_wp2
          go_ret
          exact ⟨by rw [H3.out]; rfl, rfl⟩
        · have q2 : ¬ (170 : Int) < (B : Int) := by omega
          by_cases h5 : 170 < D
          · have q3 : (170 : Int) < (D : Int) := by omega
            have H3 : Hid (someH L = false) := by
              show _ = _
              rw [HF.out, HALL.out, HDR.out, List.all_cons, hP.out, decide_eq_true (by omega), decide_eq_false (by omega)]; rfl
            clear hrec hi' hdrop hrr hL hL2 hd
            go_wp2
            go_ret
            exact ⟨by rw [H3.out]; rfl, rfl⟩
          · have q3 : ¬ (170 : Int) < (D : Int) := by omega
            have H3 : Hid (L.all lightP = (L.drop (i + 1)).all lightP) := by
              show _ = _
              rw [HALL.out, HDR.out, List.all_cons, hP.out, decide_eq_true (by omega), decide_eq_true (by omega)]; rfl
            clear hrec hi' hdrop hrr hL hL2 hd
            go_wp2
            go_roundg (L.length - (i + 1))
            case measure => have := HD.out; omega
            case rel => exact ⟨i + 1, HD.out, rfl, by go_num, H3.out, rfl⟩
      · obtain rfl : i = L.length := by omega
        have H3 : Hid (someH L = true) := by show _ = _; rw [HF.out, HALL.out, List.drop_length]; rfl
        go_wp2
        go_ret
        exact ⟨by rw [H3.out]; rfl, rfl⟩
end Go.Proofs.YtjpnfadmblmjbaaDoor
