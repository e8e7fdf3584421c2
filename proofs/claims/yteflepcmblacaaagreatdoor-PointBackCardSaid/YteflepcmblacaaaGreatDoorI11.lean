/- Layer 12: reader.value on the bytes of a right point. -/
import Derived.Test.YteflepcmblacaaaGreatDoorI10
namespace Go.Proofs.YteflepcmblacaaaGreatDoor
open Go.RowKit
attribute [local go_sem ↓] Go.wp_at_zero Go.wp_at_succ

theorem own_nilU (w : World) (B : Nat) : w.ownsRow B 23 1 (.slice none 0 0) 0 (uvals []) := World.ownsRow_nil _ _ _ _
theorem side_facts {o : Int} {l : List Nat} (h : sideE o l = 0) : l.length ≤ 160 ∧ (-4503599627370496 ≤ o ∧ o ≤ 4503599627370496) ∧ (l.length = 0 → o = 0) := by
  obtain ⟨h1, h2, h3⟩ := sideE_zero h
  refine ⟨h1, ?_, h2⟩
  rcases Nat.eq_zero_or_pos l.length with h0 | h0
  · have := h2 h0; omega
  · have := (h3 (by omega)).2.2; omega
theorem rdValue_any {W w : World} {p : Nat} {l rest : List Int} (x : Pnt) (hR : x.right) (hok : x.ok) (na : ByteArray) (aa : Option Addr) (al ac : Nat) (mo : Bool) (h : RL W w p l (bytesV x ++ rest)) (hl : l.length ≤ 100000000000) :
    Calls Tryz.prog 37 #[.agg #[.pointer (some ⟨p, 0, none⟩)], .agg #[.string na, .slice aa al ac, .int .i64 x.kind, .int .i64 x.temp, .bool mo, .int .i64 x.start, .int .i64 x.time, .int .i64 0, .int .u64 0, .int .u64 0, .int .i64 0, .int .u64 0, .int .i64 0, .slice none 0 0, .int .i64 0, .slice none 0 0, .int .i64 x.flags]] w
      fun e w' => ∃ va vc ua uc, e = .returned (.agg #[.string na, .slice aa al ac, .int .i64 x.kind, .int .i64 x.temp, .bool mo, .int .i64 x.start, .int .i64 x.time, .int .i64 x.whole, .int .u64 x.re, .int .u64 x.im, .int .i64 x.h.sc, .int .u64 (x.h.ze : Int), .int .i64 x.h.po, .slice va x.h.pl.length vc, .int .i64 x.h.no, .slice ua x.h.nl.length uc, .int .i64 x.flags]) ∧
        w'.ownsRow w.heap.size 23 1 (.slice va x.h.pl.length vc) x.h.pl.length (uvals x.h.pl) ∧ w'.ownsRow w.heap.size 23 1 (.slice ua x.h.nl.length uc) x.h.nl.length (uvals x.h.nl) ∧ RL W w' p l rest ∧ Kept (fun k => k = p) w w' := by
  have hown := of_decide_eq_true hR.own
  have hk := hR.kinds
  obtain ⟨name, L, kind, temp, mono, start, time, whole, re, im, ⟨sc, ze, po, pl, no, nl⟩, flags⟩ := x
  have hre := hok.re
  have him := hok.im
  have hwh := hok.whole
  have hze := hok.h.ze
  have hpb := hok.h.pl
  have hnb := hok.h.nl
  have her := hR.hist
  unfold I64 at hwh
  unfold bytesV at h
  dsimp only at h hown hk hre him hwh hze hpb hnb her ⊢
  clear hR hok
  have hz : kind ≠ 4 → (sc = 0 ∧ ze = 0) ∧ (po = 0 ∧ no = 0) ∧ (pl = [] ∧ nl = []) := fun e => by
    rcases hown.2.2.2 with h4 | ⟨h5, h6, h7, h8⟩
    · exact absurd h4 e
    · exact ⟨h5, h6, List.length_eq_zero_iff.1 h7, List.length_eq_zero_iff.1 h8⟩
  rcases (show kind = 1 ∨ kind = 2 ∨ kind = 3 ∨ kind = 5 ∨ kind = 4 by omega) with e | e | e | e | e
  · subst e
    obtain ⟨⟨rfl, rfl⟩, ⟨rfl, rfl⟩, rfl, rfl⟩ := hz (by omega)
    obtain rfl : re = 0 := by omega
    obtain rfl : im = 0 := by omega
    rw [if_pos rfl] at h
    refine (rdValue1 whole na aa al ac temp mo start time flags h hl hwh).mono ?_
    rintro e w' ⟨rfl, h1, h2⟩
    exact ⟨none, 0, none, 0, rfl, own_nilU _ _, own_nilU _ _, h1, h2⟩
  · subst e
    obtain ⟨⟨rfl, rfl⟩, ⟨rfl, rfl⟩, rfl, rfl⟩ := hz (by omega)
    obtain rfl : whole = 0 := by omega
    obtain rfl : im = 0 := by omega
    rw [if_neg (by omega), if_pos (by omega)] at h
    refine (rdValue2 re na aa al ac temp mo start time flags h hl hre).mono ?_
    rintro e w' ⟨rfl, h1, h2⟩
    exact ⟨none, 0, none, 0, rfl, own_nilU _ _, own_nilU _ _, h1, h2⟩
  · subst e
    obtain ⟨⟨rfl, rfl⟩, ⟨rfl, rfl⟩, rfl, rfl⟩ := hz (by omega)
    obtain rfl : whole = 0 := by omega
    obtain rfl : im = 0 := by omega
    rw [if_neg (by omega), if_pos (by omega)] at h
    refine (rdValue3 re na aa al ac temp mo start time flags h hl hre).mono ?_
    rintro e w' ⟨rfl, h1, h2⟩
    exact ⟨none, 0, none, 0, rfl, own_nilU _ _, own_nilU _ _, h1, h2⟩
  · subst e
    obtain ⟨⟨rfl, rfl⟩, ⟨rfl, rfl⟩, rfl, rfl⟩ := hz (by omega)
    obtain rfl : whole = 0 := by omega
    rw [if_neg (by omega), if_neg (by omega), if_pos rfl] at h
    refine (rdValue5 re im na aa al ac temp mo start time flags h hl hre him).mono ?_
    rintro e w' ⟨rfl, h1, h2⟩
    exact ⟨none, 0, none, 0, rfl, own_nilU _ _, own_nilU _ _, h1, h2⟩
  · subst e
    obtain rfl : whole = 0 := by omega
    obtain rfl : re = 0 := by omega
    obtain rfl : im = 0 := by omega
    rw [if_neg (by omega), if_neg (by omega), if_neg (by omega), if_pos rfl] at h
    obtain ⟨h1, h2, h3, _⟩ := err_light her
    obtain ⟨p1, p2, p3⟩ := side_facts h2
    obtain ⟨n1, n2, n3⟩ := side_facts h3
    dsimp only at h1 p1 p2 p3 n1 n2 n3
    refine (rdValue4 sc (ze : Int) po no pl nl na aa al ac temp mo start time flags h hl ⟨⟨by omega, by omega⟩, ⟨p1, p2, p3, hpb⟩, n1, n2, n3, hnb⟩).mono ?_
    rintro e w' ⟨va, vc, ua, uc, rfl, o1, o2, h1, h2⟩
    exact ⟨va, vc, ua, uc, rfl, o1, o2, h1, h2⟩
end Go.Proofs.YteflepcmblacaaaGreatDoor
