/- Texts put together: what the theorem stands on. -/
import Derived.Test.YtiiibhdohlpodaaZz4
import Derived.Test.YtiiibhdohlpodaaZz5
import Derived.Test.YtiiibhdohlpodaaZz10
import Derived.Test.YtiiibhdohlpodaaZz13
import Derived.Test.YtiiibhdohlpodaaZz14

namespace Go.Proofs.Ytiiibhdohlpodaa
open Go.RowKit
open Ieee
/-- Is that word not below nought? -/
def geZ (x : Nat) : Prop := double.order x 0 ≠ some .lt
theorem lessI_zero (a : Int) : lessI a 0 = false ↔ geZ a.toNat := by
  unfold lessI geZ
  constructor
  · intro h e
    rw [show ((0 : Int).toNat) = 0 from rfl] at h
    rw [e] at h
    exact absurd h (by decide)
  · intro h
    rw [show ((0 : Int).toNat) = 0 from rfl, beq_eq_false_iff_ne]
    exact h
theorem signed_nonneg (m up : Nat) : 0 ≤ signed false m up := by unfold signed; rw [if_neg (by decide)]; exact Int.natCast_nonneg _
theorem word_geZ (b : Bool) : geZ (double.word b 0) := by
  cases b
  · unfold geZ; decide +kernel
  · unfold geZ; decide +kernel
theorem read_zero : double.read 0 = .number false 0 double.leastPlace := by decide +kernel
/-- A word below the sign's weight is not below nought. -/
theorem geZ_small {r : Nat} (h : r < double.signWeight) : geZ r := by
  intro e
  unfold Format.order at e
  have hn : (r / double.signWeight % 2 == 1) = false := by rw [Nat.div_eq_of_lt h]; rfl
  rw [read_zero] at e
  unfold Format.read at e
  simp only [hn] at e
  split at e
  · simp only [Datum.order, Option.some.injEq, Int.compare_eq_lt] at e
    have := signed_nonneg (r % double.signWeight) (double.leastPlace - min double.leastPlace double.leastPlace).toNat
    have h0 : signed false 0 (double.leastPlace - min double.leastPlace double.leastPlace).toNat = 0 := by unfold signed; simp
    omega
  · split at e
    · simp only [Datum.order, Option.some.injEq, Int.compare_eq_lt] at e
      rename_i h1 h2
      have := signed_nonneg (double.binade + r % double.signWeight % double.binade) (double.leastPlace + (r % double.signWeight / double.binade - 1 : Nat) - min (double.leastPlace + (r % double.signWeight / double.binade - 1 : Nat)) double.leastPlace).toNat
      have h0 : signed false 0 (double.leastPlace - min (double.leastPlace + (r % double.signWeight / double.binade - 1 : Nat)) double.leastPlace).toNat = 0 := by unfold signed; simp
      omega
    · split at e
      · simp [Datum.order] at e
      · simp [Datum.order] at e
theorem infRung_lt : double.infRung < double.signWeight := by decide
/-- What is written of a sum that is not below nought is not below nought. -/
theorem geZ_write {s t : Bool} {m n : Nat} {i j : Int} {d : Datum} (h : Datum.sum (.number s m i) (.number t n j) = some d) (h0 : 0 ≤ signed s m (i - min i j).toNat + signed t n (j - min i j).toNat) : geZ (double.write d) := by
  simp only [Datum.sum, Option.some.injEq] at h
  subst h
  simp only [Format.write]
  unfold Format.nearest
  by_cases hz : signed s m (i - min i j).toNat + signed t n (j - min i j).toNat = 0
  · rw [if_pos (by rw [hz]; rfl)]
    exact word_geZ _
  · rw [if_neg (by omega), if_neg hz, decide_eq_false (by omega)]
    unfold Format.word
    simp only [Bool.false_eq_true, if_false]
    exact geZ_small (Nat.lt_of_le_of_lt (Nat.min_le_right _ _) infRung_lt)
/-- A finite word is a number. -/
theorem read_numW {a : Nat} (h : a / 4503599627370496 % 2048 ≠ 2047) : ∃ s m i, double.read a = .number s m i := by
  unfold Format.read
  have e1 : double.signWeight = 9223372036854775808 := by decide
  have e2 : double.binade = 4503599627370496 := by decide
  have e3 : double.infRung = 9218868437227405312 := by decide
  simp only [e1, e2, e3]
  split
  · exact ⟨_, _, _, rfl⟩
  · split
    · exact ⟨_, _, _, rfl⟩
    · rename_i h1 h2
      exfalso
      omega
theorem geZ_signed {a : Nat} {s : Bool} {m : Nat} {i : Int} (h : double.read a = .number s m i) (hg : geZ a) (up : Nat) : 0 ≤ signed s m up := by
  cases s with
  | false => exact signed_nonneg m up
  | true =>
    by_cases hm : m = 0
    · subst hm; unfold signed; simp
    · exfalso
      apply hg
      unfold Format.order
      rw [h, read_zero]
      simp only [Datum.order, Option.some.injEq, Int.compare_eq_lt]
      have h0 : signed false 0 (double.leastPlace - min i double.leastPlace).toNat = 0 := by unfold signed; simp
      rw [h0]
      unfold signed
      simp only [if_true]
      have : 0 < m <<< (i - min i double.leastPlace).toNat := by
        rw [Nat.shiftLeft_eq]
        exact Nat.mul_pos (by omega) (Nat.two_pow_pos _)
      omega
theorem geZ_odd : geZ 9221120237041090561 := by
  unfold geZ
  decide +kernel
theorem geZ_canon {r : Nat} (h : geZ r) : geZ (canonI (r : Int)).toNat := by
  unfold canonI
  split
  · exact geZ_odd
  · exact h
theorem fin_nat {a : Int} (h : finI a = true) (_ : 0 ≤ a) : a.toNat / 4503599627370496 % 2048 ≠ 2047 := by
  unfold finI at h
  simp only [decide_eq_true_eq] at h
  omega
theorem floatBits_add (x y : Nat) : floatBits .add .f64 x y = double.add x y := rfl
/-- The sum of two finite floats that are not below nought isn't, either. -/
theorem add_geZ {a b : Int} (ha : 0 ≤ a) (hb : 0 ≤ b) (fa : finI a = true) (fb : finI b = true) (la : lessI a 0 = false) (lb : lessI b 0 = false) : lessI (addI a b) 0 = false := by
  rw [lessI_zero] at la lb ⊢
  obtain ⟨s, m, i, e1⟩ := read_numW (fin_nat fa ha)
  obtain ⟨t, n, j, e2⟩ := read_numW (fin_nat fb hb)
  unfold addI
  rw [floatBits_add]
  unfold Format.add
  rw [e1, e2]
  have h1 := geZ_signed e1 la (i - min i j).toNat
  have h2 := geZ_signed e2 lb (j - min i j).toNat
  cases hs : Datum.sum (.number s m i) (.number t n j) with
  | none => exact geZ_odd
  | some d => exact geZ_canon (geZ_write hs (by omega))
end Go.Proofs.Ytiiibhdohlpodaa

namespace Go.Proofs.Ytiiibhdohlpodaa
open Go.RowKit
theorem chk_own {x : Pnt} (h : chk x = 0) : ownB x = true := by
  have h4 := (chk_parts h).2.2.2.1
  cases e : ownB x with
  | true => rfl
  | false => exact absurd (Or.inl e) h4
theorem chk_times {x : Pnt} (h : chk x = 0) (hk : x.kind ≠ 3) : 0 ≤ x.start ∧ x.start < x.time ∧ x.time ≤ 4503599627370496 := by
  have h3 := (chk_parts h).2.2.1
  have ht : timesB x = true := by
    cases e' : timesB x with
    | true => rfl
    | false => exact absurd (Or.inr e') h3
  unfold timesB at ht
  simp only [decide_eq_true_eq] at ht
  rw [if_neg hk] at ht
  exact ⟨ht.1.1, ht.2, ht.1.2⟩
theorem chk_mono {x : Pnt} (h : chk x = 0) (hm : x.mono = true) : (x.kind = 1 ∨ x.kind = 2) ∧ finI x.re = true ∧ 0 ≤ x.whole ∧ lessI x.re 0 = false := by
  obtain ⟨_, _, h3, _, h5, h6, _⟩ := chk_parts h
  refine ⟨?_, ?_, ?_, ?_⟩
  · have : sumB x = true := by
      cases e : sumB x with
      | true => rfl
      | false => exact absurd (Or.inl ⟨hm, e⟩) h3
    unfold sumB at this
    simpa using this
  · cases e : finI x.re with
    | true => rfl
    | false => exact absurd ⟨hm, e⟩ h5
  · by_cases hc : x.whole < 0
    · exact absurd ⟨hm, Or.inl hc⟩ h6
    · omega
  · cases e : lessI x.re 0 with
    | false => rfl
    | true => exact absurd ⟨hm, Or.inr e⟩ h6
/-- A point that differs from a right one in its temporality, start, value and flags alone. -/
theorem chk_to {x y : Pnt} (h : chk x = 0) (e1 : y.name = x.name) (e2 : y.L = x.L) (e3 : y.kind = x.kind) (hk : x.kind = 1 ∨ x.kind = 2 ∨ x.kind = 4 ∨ x.kind = 5) (e4 : y.mono = x.mono) (e5 : y.time = x.time)
    (ht : y.temp = 1 ∨ y.temp = 2) (hs : 0 ≤ y.start ∧ y.start < x.time) (ho : ownB y = true) (hf : 0 ≤ y.flags ∧ y.flags ≤ 31) (hm : x.mono = true → finI y.re = true ∧ 0 ≤ y.whole ∧ lessI y.re 0 = false) (he : y.h.err = 0) : chk y = 0 := by
  obtain ⟨h1, h2, h3, h4, h5, h6, h7⟩ := chk_parts h
  have hti := chk_times h (by omega)
  refine chk_of (by rw [e1, e2]; exact h1) ?_ ?_ ?_ ?_ ?_ he
  · unfold kindB
    simp only [decide_eq_true_eq]
    exact Or.inr ⟨by rw [e3]; exact hk, ht⟩
  · rintro (⟨a, b⟩ | b)
    · have hmx := e4 ▸ a
      have := (chk_mono h hmx).1
      unfold sumB at b
      simp only [decide_eq_false_iff_not] at b
      exact b (by rw [e3]; exact this)
    · unfold timesB at b
      simp only [decide_eq_false_iff_not] at b
      apply b
      rw [if_neg (by omega), e5]
      exact ⟨⟨hs.1, hti.2.2⟩, hs.2⟩
  · rintro (a | a | a)
    · rw [ho] at a; cases a
    · omega
    · omega
  · rintro ⟨a, b⟩
    rw [(hm (e4 ▸ a)).1] at b; cases b
  · rintro ⟨a, b⟩
    obtain ⟨_, c1, c2⟩ := hm (e4 ▸ a)
    rcases b with b | b
    · omega
    · rw [c2] at b; cases b
/-- A state that was left by a right point of that kind, or none. -/
def StR (k : Int) (m : Bool) (s : StV) : Prop := s.some = true → ∃ y : Pnt, s = stOf y ∧ chk y = 0 ∧ y.kind = k ∧ y.mono = m ∧ y.ok
theorem own_iff (x : Pnt) : ownB x = true ↔ ((x.kind = 1 ∨ x.whole = 0) ∧ (x.kind = 2 ∨ x.kind = 3 ∨ x.kind = 5 ∨ x.re = 0) ∧ (x.kind = 5 ∨ x.im = 0) ∧ (x.kind = 4 ∨ ((x.h.sc = 0 ∧ x.h.ze = 0) ∧ (x.h.po = 0 ∧ x.h.no = 0) ∧ (x.h.pl.length = 0 ∧ x.h.nl.length = 0)))) := by
  unfold ownB; rw [decide_eq_true_eq]
/-- What holds of a point that was taken, beside the one that came. -/
structure TakenR (x f : Pnt) : Prop where
  name : f.name = x.name
  L : f.L = x.L
  kind : f.kind = x.kind
  temp : f.temp = x.temp
  mono : f.mono = x.mono
  start : f.start = x.start
  time : f.time = x.time
  whole : f.whole = x.whole
  re : f.re = x.re
  im : f.im = x.im
  flags : f.flags = 0
  own : ownB f = true
  err : f.h.err = 0
  ok : f.ok
  ck : chk x = 0
  kd : x.kind = 1 ∨ x.kind = 2 ∨ x.kind = 4 ∨ x.kind = 5
  tp : x.temp = 1 ∨ x.temp = 2
theorem takenF_taken {x : Pnt} {t most : Int} (hok : x.ok) (hli : x.light) (h : (takenF x t most).2 = 0) (ht : t = 1 ∨ t = 2 := by decide) : TakenR x (takenF x t most).1 := by
  have hf := takenF_right hok hli h ht
  obtain ⟨h1, hc⟩ := takenF_zero h
  obtain ⟨hk, htp, hfl⟩ := takenE_zero h1
  have ho := chk_own hk
  have h7 := (chk_parts hk).2.2.2.2.2.2
  have hkd : x.kind = 1 ∨ x.kind = 2 ∨ x.kind = 4 ∨ x.kind = 5 := by
    have := hf.kd
    rcases hc with ⟨_, _, e⟩ | ⟨_, e⟩
    · rw [e] at this; exact this
    · rw [e] at this; exact this
  rcases hc with ⟨k4, f0, e⟩ | ⟨k4, e⟩
  · obtain ⟨he, b, hb, e2, er, eo, ef⟩ := fitG_right hok.h f0
    rw [e]
    refine ⟨rfl, rfl, rfl, rfl, rfl, rfl, rfl, rfl, rfl, rfl, hfl, ?_, er, ⟨hok.kind, hok.temp, hok.start, hok.time, hok.whole, hok.re, hok.im, eo, hok.flags⟩, hk, hkd, by omega⟩
    rw [own_iff] at ho ⊢
    exact ⟨ho.1, ho.2.1, ho.2.2.1, Or.inl k4⟩
  · rw [e]
    exact ⟨rfl, rfl, rfl, rfl, rfl, rfl, rfl, rfl, rfl, rfl, hfl, ho, h7, hok, hk, hkd, by omega⟩
theorem TakenR.ti {x f : Pnt} (h : TakenR x f) : 0 ≤ x.start ∧ x.start < x.time := by
  have := chk_times h.ck (by have := h.kd; omega)
  exact ⟨this.1, this.2.1⟩
/-- A point that was taken, with another temporality and flags, is right. -/
theorem TakenR.flagged {x f : Pnt} (h : TakenR x f) (t c : Int) (ht : t = 1 ∨ t = 2) (hc : 0 ≤ c ∧ c ≤ 31) (a : Int) (ha : 0 ≤ a ∧ a < x.time) : chk { f with temp := t, flags := c, start := a } = 0 ∧ ({ f with temp := t, flags := c, start := a } : Pnt).ok := by
  have hti := chk_times h.ck (by have := h.kd; omega)
  refine ⟨chk_to h.ck h.name h.L h.kind h.kd h.mono h.time ht ha ?_ hc ?_ h.err, ⟨h.ok.kind, by unfold I64; dsimp only; omega, by unfold I64; dsimp only; omega, h.ok.time, h.ok.whole, h.ok.re, h.ok.im, h.ok.h, by unfold I64; dsimp only; omega⟩⟩
  · have := h.own
    rw [own_iff] at this ⊢
    exact this
  · intro hm
    obtain ⟨_, c1, c2, c3⟩ := chk_mono h.ck hm
    exact ⟨by rw [show ({ f with temp := t, flags := c, start := a } : Pnt).re = x.re from h.re]; exact c1, by rw [show ({ f with temp := t, flags := c, start := a } : Pnt).whole = x.whole from h.whole]; exact c2, by rw [show ({ f with temp := t, flags := c, start := a } : Pnt).re = x.re from h.re]; exact c3⟩
theorem addI_zero : addI 0 0 = 0 := by decide +kernel
/-- What is told of a point that was made. -/
structure OutR (s : StV) (x y : Pnt) : Prop where
  name : y.name = x.name
  L : y.L = x.L
  ck : chk y = 0
  ok : y.ok
  kind : y.kind = x.kind
  mono : y.mono = x.mono
  temp : y.temp = 1
  time : y.time = x.time
  first : y.flags = 1 ↔ s.some = false
  own : y.flags ≠ 0 → y.start = x.start
  goes : y.flags = 0 → s.some = true ∧ y.start = s.start
  gap : s.some = true → (y.flags = 8 ↔ s.time < x.start)
theorem nextA_right {s : StV} {x : Pnt} {most : Int} (hs : StR x.kind x.mono s) (hx : x.ok) (hli : x.light) (h0 : stepA s x most = 0) : OutR s x (nextAP s x most) := by
  obtain ⟨ht, hl⟩ := stepA_zero h0
  have hf := takenF_taken hx hli ht
  unfold nextAP
  rw [if_pos h0]
  obtain ⟨f, hff⟩ : ∃ f, f = (takenF x 2 most).1 := ⟨_, rfl⟩
  rw [← hff] at hf hl ⊢
  clear hff
  have hti := hf.ti
  -- flagged
  have flag : ∀ c : Int, 0 < c → c ≤ 31 → (c = 1 ↔ s.some = false) → (s.some = true → (c = 8 ↔ s.time < x.start)) → OutR s x { f with temp := 1, flags := c } := by
    intro c c0 c1 hc1 hc2
    obtain ⟨h1, h2⟩ := hf.flagged 1 c (Or.inl rfl) ⟨by omega, c1⟩ f.start (by rw [hf.start]; exact hti)
    exact ⟨hf.name, hf.L, h1, h2, hf.kind, hf.mono, rfl, hf.time, hc1, fun _ => hf.start, fun e => absurd e (by show c ≠ 0; omega), hc2⟩
  unfold outA
  by_cases hsm : s.some = false
  · rw [if_pos hsm]
    exact flag 1 (by decide) (by decide) ⟨fun _ => hsm, fun _ => rfl⟩ (fun e => by rw [hsm] at e; cases e)
  have hst : s.some = true := by simpa using hsm
  rw [if_neg hsm]
  obtain ⟨l1, l2⟩ := hl hst
  rw [hf.time] at l1
  rw [hf.start] at l2
  by_cases hg : s.time < x.start
  · rw [if_pos (by rw [hf.start]; exact hg)]
    exact flag 8 (by decide) (by decide) ⟨fun e => by omega, fun e => absurd e hsm⟩ (fun _ => ⟨fun _ => hg, fun _ => rfl⟩)
  rw [if_neg (by rw [hf.start]; exact hg)]
  have over : OutR s x { f with temp := 1, flags := 16 } := flag 16 (by decide) (by decide) ⟨fun e => by omega, fun e => absurd e hsm⟩ (fun _ => ⟨fun e => by omega, fun e => absurd e hg⟩)
  obtain ⟨z, rfl, zc, zk, zm, zo⟩ := hs hst
  have zt := chk_times zc (by have := hf.kd; omega)
  have zown := (own_iff z).1 (chk_own zc)
  have fown := (own_iff f).1 hf.own
  -- goes on
  have goon : ∀ y : Pnt, y.name = x.name → y.L = x.L → y.kind = x.kind → y.mono = x.mono → y.time = x.time → y.temp = 1 → y.flags = 0 → y.start = z.start → ownB y = true → (x.mono = true → finI y.re = true ∧ 0 ≤ y.whole ∧ lessI y.re 0 = false) → y.h.err = 0 → y.ok → OutR (stOf z) x y := by
    intro y e1 e2 e3 e4 e5 e6 e7 e8 e9 e10 e11 e12
    have l1' : z.time < x.time := l1
    exact ⟨e1, e2, chk_to hf.ck e1 e2 e3 hf.kd e4 e5 (Or.inl e6) (by rw [e8]; omega) e9 (by omega) e10 e11, e12, e3, e4, e6, e5, ⟨fun e => by omega, fun e => by cases e⟩, fun e => absurd e7 e, fun _ => ⟨rfl, e8⟩, fun _ => ⟨fun e => by omega, fun e => absurd e hg⟩⟩
  have hzst : I64 z.start := zo.start
  unfold moreA
  by_cases k1 : f.kind = 1
  · rw [if_pos k1]
    unfold moreW
    dsimp only
    by_cases hov : decide (IntKind.i64.wrap ((stOf z).whole + f.whole) < (stOf z).whole) ≠ decide (f.whole < 0)
    · rw [if_pos hov]; exact over
    · rw [if_neg hov]
      have hov' : (IntKind.i64.wrap (z.whole + f.whole) < z.whole) ↔ f.whole < 0 := by
        have : decide (IntKind.i64.wrap (z.whole + f.whole) < z.whole) = decide (f.whole < 0) := Decidable.not_not.1 hov
        simpa using this
      have hww := IntKind.wrap_i64
      have hw1 := zo.whole
      have hw2 := hf.ok.whole
      unfold I64 at hw1 hw2
      have hsum : IntKind.i64.wrap (z.whole + f.whole) = z.whole + f.whole ∧ -9223372036854775808 ≤ z.whole + f.whole ∧ z.whole + f.whole ≤ 9223372036854775807 := by
        rw [hww] at hov' ⊢
        omega
      refine goon _ hf.name hf.L hf.kind hf.mono hf.time rfl hf.flags rfl ?_ ?_ hf.err ⟨hf.ok.kind, show I64 1 by unfold I64; omega, hzst, hf.ok.time, ?_, hf.ok.re, hf.ok.im, hf.ok.h, hf.ok.flags⟩
      · rw [own_iff]
        exact ⟨Or.inl k1, fown.2.1, fown.2.2.1, fown.2.2.2⟩
      · intro hm
        obtain ⟨_, c1, c2, c3⟩ := chk_mono hf.ck hm
        obtain ⟨_, d1, d2, d3⟩ := chk_mono zc (by rw [zm]; exact hm)
        refine ⟨by show finI f.re = true; rw [hf.re]; exact c1, ?_, by show lessI f.re 0 = false; rw [hf.re]; exact c3⟩
        show 0 ≤ IntKind.i64.wrap (z.whole + f.whole)
        rw [hsum.1, hf.whole]; omega
      · show I64 (IntKind.i64.wrap (z.whole + f.whole))
        rw [hsum.1]; unfold I64; omega
  rw [if_neg k1]
  by_cases k4 : f.kind = 4
  · rw [if_pos k4]
    dsimp only
    by_cases hr : (togH (stOf z).h f.h most).2 = true
    · rw [if_pos hr]
      have hh := togH_right (a := (stOf z).h) (b := f.h) (most := most) (R := (togH (stOf z).h f.h most).1) zo.h hf.ok.h (by rw [← hr])
      refine goon _ hf.name hf.L hf.kind hf.mono hf.time rfl hf.flags rfl ?_ ?_ hh.2.2.1 ⟨hf.ok.kind, show I64 1 by unfold I64; omega, hzst, hf.ok.time, hf.ok.whole, hf.ok.re, hf.ok.im, hh.2.2.2.2.2, hf.ok.flags⟩
      · rw [own_iff]
        exact ⟨fown.1, fown.2.1, fown.2.2.1, Or.inl k4⟩
      · intro hm
        obtain ⟨c0, _⟩ := chk_mono hf.ck hm
        have := hf.kind
        omega
    · rw [if_neg hr]; exact over
  rw [if_neg k4]
  have hxk := hf.kd
  have hfk := hf.kind
  have ure := addI_u64 (stOf z).re f.re
  have uim := addI_u64 (stOf z).im f.im
  dsimp only
  by_cases hq : ((finI (addI (stOf z).re f.re) && finI (addI (stOf z).im f.im)) || !fin4 (stOf z).re (stOf z).im f.re f.im) = true
  · rw [if_pos hq]
    refine goon _ hf.name hf.L hf.kind hf.mono hf.time rfl hf.flags rfl ?_ ?_ hf.err ⟨hf.ok.kind, show I64 1 by unfold I64; omega, hzst, hf.ok.time, hf.ok.whole, ure, uim, hf.ok.h, hf.ok.flags⟩
    · rw [own_iff]
      refine ⟨fown.1, by dsimp only; omega, ?_, fown.2.2.2⟩
      by_cases k5 : f.kind = 5
      · exact Or.inl k5
      · refine Or.inr ?_
        have i1 : z.im = 0 := by have := zown.2.2.1; omega
        have i2 : f.im = 0 := by have := fown.2.2.1; omega
        show addI z.im f.im = 0
        rw [i1, i2]; exact addI_zero
    · intro hm
      obtain ⟨c0, c1, c2, c3⟩ := chk_mono hf.ck hm
      obtain ⟨d0, d1, d2, d3⟩ := chk_mono zc (by rw [zm]; exact hm)
      have i1 : z.im = 0 := by have := zown.2.2.1; omega
      have i2 : f.im = 0 := by have := fown.2.2.1; omega
      have hfin4 : fin4 z.re z.im f.re f.im = true := by
        unfold fin4
        rw [i1, i2, d1, hf.re, c1]
        decide
      have hq' : ((finI (addI z.re f.re) && finI (addI z.im f.im)) || !fin4 z.re z.im f.re f.im) = true := hq
      rw [hfin4] at hq'
      simp only [Bool.not_true, Bool.or_false, Bool.and_eq_true] at hq'
      refine ⟨hq'.1, by show 0 ≤ f.whole; rw [hf.whole]; exact c2, ?_⟩
      show lessI (addI z.re f.re) 0 = false
      exact add_geZ zo.re.1 hf.ok.re.1 d1 (by rw [hf.re]; exact c1) d3 (by rw [hf.re]; exact c3)
  · rw [if_neg hq]; exact over
theorem OutR.light {s : StV} {x y : Pnt} (h : OutR s x y) (hl : x.light) : y.light := by
  have he := err_light (chk_parts h.ck).2.2.2.2.2.2
  have h1 := (sideE_zero he.2.1).1
  have h2 := (sideE_zero he.2.2.1).1
  exact ⟨by rw [h.name]; exact hl.name, by rw [h.L]; exact hl.len, by rw [h.L]; exact hl.sh, by omega, by omega⟩
/-- What is told of the points that were taken, and of what came of them. -/
theorem playA_right {k : Int} {m : Bool} {most : Int} {xs : List Pnt} (hx : ∀ x ∈ xs, x.kind = k ∧ x.mono = m ∧ x.ok ∧ x.light) (i : Nat) : ∀ p, (playA most zeroSt xs)[i]? = some p →
    p.1 ∈ xs ∧ ∃ s', stepA s' p.1 most = 0 ∧ p.2 = nextAP s' p.1 most ∧ OutR s' p.1 p.2 ∧ (i = 0 → s' = zeroSt) ∧ (∀ j, i = j + 1 → ∃ q, (playA most zeroSt xs)[j]? = some q ∧ s' = stOf q.2 ∧ q.2.time = q.1.time) := by
  induction i with
  | zero =>
    intro p hp
    obtain ⟨h1, s', h2, h3, h4, h5⟩ := playA_at most xs zeroSt 0 p hp
    have := h4 rfl
    subst this
    obtain ⟨k1, k2, k3, k4⟩ := hx _ h1
    refine ⟨h1, zeroSt, h2, h3, ?_, fun _ => rfl, fun j e => by omega⟩
    rw [h3]
    exact nextA_right (fun e => by cases e) k3 k4 h2
  | succ i ih =>
    intro p hp
    obtain ⟨h1, s', h2, h3, h4, h5⟩ := playA_at most xs zeroSt (i + 1) p hp
    obtain ⟨q, hq, rfl⟩ := h5 i rfl
    obtain ⟨g1, s0, g2, g3, g4, g5, g6⟩ := ih q hq
    obtain ⟨k1, k2, k3, k4⟩ := hx _ h1
    obtain ⟨l1, l2, _⟩ := hx _ g1
    refine ⟨h1, _, h2, h3, ?_, fun e => by omega, fun j e => ?_⟩
    · rw [h3]
      exact nextA_right (fun _ => ⟨q.2, rfl, g4.ck, by rw [g4.kind, l1, k1], by rw [g4.mono, l2, k2], g4.ok⟩) k3 k4 h2
    · obtain rfl : j = i := by omega
      exact ⟨q, hq, rfl, g4.time⟩
end Go.Proofs.Ytiiibhdohlpodaa

namespace Go.Proofs.Ytiiibhdohlpodaa
open Go.RowKit
attribute [local go_sem ↓] Go.wp_at_zero Go.wp_at_succ
/-- awake's point. -/
def awY (start time whole : Int) : Pnt := ⟨{ data := #[120] }, [], 1, 2, false, start, time, whole, 0, 0, zeroHV, 0⟩
theorem awY_at (w : World) (a t v : Int) : PntAt w (awY a t v) none 0 (.slice none 0 0) (.slice none 0 0) :=
  ⟨fun h => absurd h (Nat.lt_irrefl 0), Nat.le_refl _, ⟨SlAt.ofOwn (base := 0) (e := 25) (World.ownsRow_nil _ _ _ _), SlAt.ofOwn (base := 0) (e := 25) (World.ownsRow_nil _ _ _ _)⟩⟩
theorem awY_light (a t v : Int) : (awY a t v).light := ⟨show 1 ≤ 1000 by decide, Nat.zero_le _, fun p hp => (by cases hp), Nat.zero_le _, Nat.zero_le _⟩
theorem awY_ok {a t v : Int} (ha : I64 a) (ht : I64 t) (hv : I64 v) : (awY a t v).ok :=
  ⟨show I64 1 by unfold I64; omega, show I64 2 by unfold I64; omega, ha, ht, hv, show (0 : Int) ≤ 0 ∧ (0 : Int) ≤ 18446744073709551615 by omega, show (0 : Int) ≤ 0 ∧ (0 : Int) ≤ 18446744073709551615 by omega, zeroHV_ok, show I64 0 by unfold I64; omega⟩
theorem sl_nil (w : World) (a : Option Addr) (c : Nat) : SlAt w (.slice a 0 c) (uvals []) := ⟨a, c, rfl, fun _ => rfl, fun _ _ j u hu => by simp [uvals] at hu⟩
/-- Two slices of nothing. -/
def Nil2 (p n : Value) : Prop := ∃ a b c d, p = Value.slice a 0 c ∧ n = Value.slice b 0 d
theorem Nil2.one {p n : Value} (h : Nil2 p n) : p.oneCell' = true ∧ n.oneCell' = true := by
  obtain ⟨a, b, c, d, rfl, rfl⟩ := h
  exact ⟨rfl, rfl⟩
theorem Nil2.in_ {p n : Value} (h : Nil2 p n) (w : World) : HistIn w zeroHV p n := by
  obtain ⟨a, b, c, d, rfl, rfl⟩ := h
  exact ⟨⟨sl_nil w a c, sl_nil w b d⟩, zeroHV_ok, fun a' n' c' e => by injection e with _ e2 e3; omega, fun a' n' c' e => by injection e with _ e2 e3; omega⟩
theorem ay_step1 : stepA zeroSt (awY 0 10 5) 10 = 0 := by kernel_rfl
theorem ay_out1 : nextAP zeroSt (awY 0 10 5) 10 = { awY 0 10 5 with temp := 1, flags := 1 } := by kernel_rfl
theorem ay_st1 : nextAS zeroSt (awY 0 10 5) 10 = stOf { awY 0 10 5 with temp := 1, flags := 1 } := by kernel_rfl
theorem ay_next1 (sp sn : Value) (w : World) (hz : Nil2 sp sn) : Calls Try.prog 23 #[.agg (stC zeroSt sp sn), .agg (pntC (awY 0 10 5) (.slice none 0 0) (.slice none 0 0) (.slice none 0 0)), .int .i64 10] w fun e w' =>
    ∃ NS CY tp tn a b c m n k, e = .returned (.tuple #[.agg NS, .agg CY, .int .i64 0]) ∧ NS = stC (stOf { awY 0 10 5 with temp := 1, flags := 1 }) tp tn ∧ Nil2 tp tn ∧ CY = pntC { awY 0 10 5 with temp := 1, flags := 1 } (.slice a 0 m) (.slice b 0 n) (.slice c 0 k) ∧ Kept (fun _ => False) w w' := by
  refine (nextA_any zeroSt sp sn (awY 0 10 5) none none none 0 0 0 10 w (awY_at w _ _ _) (awY_ok (by unfold I64; decide) (by unfold I64; decide) (by unfold I64; decide)) (awY_light _ _ _) trivial (hz.in_ w) (Nat.zero_le _) (Nat.zero_le _) ⟨by decide, by decide⟩ ⟨by decide, by decide⟩).mono ?_
  rintro e w' ⟨tp, tn, v, rfl, h1, h2⟩
  rw [ay_step1]
  rw [ay_out1] at h2
  rw [ay_st1] at h1 ⊢
  have hk := h2.kept
  obtain ⟨a, b, c, m, n, k, rfl, _⟩ := h2
  obtain ⟨ra, rb, rc, rd, e1, e2, _⟩ := h1
  exact ⟨_, _, tp, tn, a, b, c, m, n, k, rfl, rfl, ⟨ra, rb, rc, rd, e1, e2⟩, rfl, hk⟩
theorem ay_step2 : stepA (stOf { awY 0 10 5 with temp := 1, flags := 1 }) (awY 10 20 3) 10 = 0 := by kernel_rfl
theorem ay_out2 : nextAP (stOf { awY 0 10 5 with temp := 1, flags := 1 }) (awY 10 20 3) 10 = { awY 10 20 3 with temp := 1, whole := 8, start := 0 } := by kernel_rfl
theorem ay_st2 : nextAS (stOf { awY 0 10 5 with temp := 1, flags := 1 }) (awY 10 20 3) 10 = stOf { awY 10 20 3 with temp := 1, whole := 8, start := 0 } := by kernel_rfl
theorem ay_next2 (sp sn : Value) (w : World) (hz : Nil2 sp sn) : Calls Try.prog 23 #[.agg (stC (stOf { awY 0 10 5 with temp := 1, flags := 1 }) sp sn), .agg (pntC (awY 10 20 3) (.slice none 0 0) (.slice none 0 0) (.slice none 0 0)), .int .i64 10] w fun e w' =>
    ∃ NS CY tp tn a b c m n k, e = .returned (.tuple #[.agg NS, .agg CY, .int .i64 0]) ∧ NS = stC (stOf { awY 10 20 3 with temp := 1, whole := 8, start := 0 }) tp tn ∧ Nil2 tp tn ∧ CY = pntC { awY 10 20 3 with temp := 1, whole := 8, start := 0 } (.slice a 0 m) (.slice b 0 n) (.slice c 0 k) ∧ Kept (fun _ => False) w w' := by
  refine (nextA_any (stOf { awY 0 10 5 with temp := 1, flags := 1 }) sp sn (awY 10 20 3) none none none 0 0 0 10 w (awY_at w _ _ _) (awY_ok (by unfold I64; decide) (by unfold I64; decide) (by unfold I64; decide)) (awY_light _ _ _) trivial (hz.in_ w) (Nat.zero_le _) (Nat.zero_le _) ⟨by decide, by decide⟩ ⟨by decide, by decide⟩).mono ?_
  rintro e w' ⟨tp, tn, v, rfl, h1, h2⟩
  rw [ay_step2]
  rw [ay_out2] at h2
  rw [ay_st2] at h1 ⊢
  have hk := h2.kept
  obtain ⟨a, b, c, m, n, k, rfl, _⟩ := h2
  obtain ⟨ra, rb, rc, rd, e1, e2, _⟩ := h1
  exact ⟨_, _, tp, tn, a, b, c, m, n, k, rfl, rfl, ⟨ra, rb, rc, rd, e1, e2⟩, rfl, hk⟩
theorem ay_step3 : stepA (stOf { awY 10 20 3 with temp := 1, whole := 8, start := 0 }) (awY 25 30 2) 10 = 0 := by kernel_rfl
theorem ay_out3 : nextAP (stOf { awY 10 20 3 with temp := 1, whole := 8, start := 0 }) (awY 25 30 2) 10 = { awY 25 30 2 with temp := 1, flags := 8 } := by kernel_rfl
theorem ay_st3 : nextAS (stOf { awY 10 20 3 with temp := 1, whole := 8, start := 0 }) (awY 25 30 2) 10 = stOf { awY 25 30 2 with temp := 1, flags := 8 } := by kernel_rfl
theorem ay_next3 (sp sn : Value) (w : World) (hz : Nil2 sp sn) : Calls Try.prog 23 #[.agg (stC (stOf { awY 10 20 3 with temp := 1, whole := 8, start := 0 }) sp sn), .agg (pntC (awY 25 30 2) (.slice none 0 0) (.slice none 0 0) (.slice none 0 0)), .int .i64 10] w fun e w' =>
    ∃ NS CY tp tn a b c m n k, e = .returned (.tuple #[.agg NS, .agg CY, .int .i64 0]) ∧ NS = stC (stOf { awY 25 30 2 with temp := 1, flags := 8 }) tp tn ∧ Nil2 tp tn ∧ CY = pntC { awY 25 30 2 with temp := 1, flags := 8 } (.slice a 0 m) (.slice b 0 n) (.slice c 0 k) ∧ Kept (fun _ => False) w w' := by
  refine (nextA_any (stOf { awY 10 20 3 with temp := 1, whole := 8, start := 0 }) sp sn (awY 25 30 2) none none none 0 0 0 10 w (awY_at w _ _ _) (awY_ok (by unfold I64; decide) (by unfold I64; decide) (by unfold I64; decide)) (awY_light _ _ _) trivial (hz.in_ w) (Nat.zero_le _) (Nat.zero_le _) ⟨by decide, by decide⟩ ⟨by decide, by decide⟩).mono ?_
  rintro e w' ⟨tp, tn, v, rfl, h1, h2⟩
  rw [ay_step3]
  rw [ay_out3] at h2
  rw [ay_st3] at h1 ⊢
  have hk := h2.kept
  obtain ⟨a, b, c, m, n, k, rfl, _⟩ := h2
  obtain ⟨ra, rb, rc, rd, e1, e2, _⟩ := h1
  exact ⟨_, _, tp, tn, a, b, c, m, n, k, rfl, rfl, ⟨ra, rb, rc, rd, e1, e2⟩, rfl, hk⟩
set_option maxHeartbeats 16000000 in
set_option maxRecDepth 100000 in
theorem awake16_any (w : World) : Calls Try.prog 19 #[] w fun e w' => e = .returned (.bool true) ∧ Kept (fun _ => False) w w' := by
  have HN1 := Lib.hid (fun w => ay_next1 (.slice none 0 0) (.slice none 0 0) w ⟨_, _, _, _, rfl, rfl⟩)
  have HN2 := Lib.hid (fun sp sn w h => ay_next2 sp sn w h)
  have HN3 := Lib.hid (fun sp sn w h => ay_next3 sp sn w h)
  obtain ⟨g1, hg1⟩ : ∃ g, g = w.heap.size := ⟨_, rfl⟩
  obtain ⟨CP1, hCP1⟩ : ∃ a, a = (pntC (awY 0 10 5) (.slice none 0 0) (.slice none 0 0) (.slice none 0 0)) := ⟨_, rfl⟩
  obtain ⟨w1, hw1⟩ : ∃ w1, w1 = w.alloc (.cells #[.string { data := #[120] }, .slice none 0 0, .int .i64 1, .int .i64 2, .bool false, .int .i64 0, .int .i64 10, .int .i64 5, .int .u64 0, .int .u64 0, .int .i64 0, .int .u64 0, .int .i64 0, .slice none 0 0, .int .i64 0, .slice none 0 0, .int .i64 0] 37) := ⟨_, rfl⟩
  have HK1 : Hid (Kept (fun _ => False) w w1) := Lib.hid (by rw [hw1]; exact (Kept.refl _ _).alloc _)
  have HB1 : Hid (w1.heap[g1]? = some (.cells CP1 37 (0, 0))) := Lib.hid (by rw [hw1, hg1, hCP1]; exact heap_alloc_new w _)
  have HW1 := Lib.hid (And.intro hw1 hg1)
  have HG1 : Hid (w.heap.size ≤ g1) := Lib.hid (by omega)
  have HCP1 := Lib.hid hCP1
  have HI1 : Hid ((Try.prog.info? 37).map (·.size) = some CP1.size) := Lib.hid (point_info.trans (by rw [hCP1]; rfl))
  rw [← hCP1] at HN1
  clear hw1 hg1 hCP1
  go_enter Try.func19, Try.ntmps19
  go_upto_region 2 with fail
  rw [← HW1.out.1, ← HW1.out.2]
  go_wp2_with (first
    | (refine wpList_load_row rfl 37 (.tmp 1) rfl g1 rfl 37 _ (0, 0) _ HB1.out Try.underlying37 rfl HI1.out ?_)
    | fail)
  rw [show (Value.agg #[.bool false, .int .i64 0, .int .i64 0, .int .i64 0, .int .u64 0, .int .u64 0, .int .i64 0, .int .u64 0, .int .i64 0, .slice none 0 0, .int .i64 0, .slice none 0 0]) = .agg (stC zeroSt (.slice none 0 0) (.slice none 0 0)) from rfl]
  refine (HN1.out w1).mono ?_
  rintro e w2 ⟨NS1, CY1, tp1, tn1, a1, b1, c1, m1, n1, k1, rfl, hNS1, ho1, hCY1, kk1⟩
  have HIS1 : Hid ((Try.prog.info? 32).map (·.size) = some NS1.size ∧ (#[.bool false, .int .i64 0, .int .i64 0, .int .i64 0, .int .u64 0, .int .u64 0, .int .i64 0, .int .u64 0, .int .i64 0, .slice none 0 0, .int .i64 0, .slice none 0 0] : Array Value).size = NS1.size ∧ NS1.all (·.oneCell') = true) := Lib.hid (by rw [hNS1]; exact ⟨state_info, rfl, stC_one ho1.one⟩)
  have HIY1 : Hid ((Try.prog.info? 37).map (·.size) = some CY1.size ∧ (#[.string { data := #[] }, .slice none 0 0, .int .i64 0, .int .i64 0, .bool false, .int .i64 0, .int .i64 0, .int .i64 0, .int .u64 0, .int .u64 0, .int .i64 0, .int .u64 0, .int .i64 0, .slice none 0 0, .int .i64 0, .slice none 0 0, .int .i64 0] : Array Value).size = CY1.size ∧ CY1.all (·.oneCell') = true) := Lib.hid (by rw [hCY1]; exact ⟨point_info, rfl, pntC_one' (ones_slices _ _ _ _ _ _ _ _ _)⟩)
  have HNS1 := Lib.hid hNS1
  have HZZ1 := Lib.hid ho1
  have HCY1 := Lib.hid hCY1
  have HKc1 := Lib.hid kk1
  clear hNS1 ho1 hCY1 kk1
  obtain ⟨g2, hg2⟩ : ∃ g, g = w2.heap.size := ⟨_, rfl⟩
  have HG2 := Lib.hid hg2
  clear hg2
  have HA2 : Hid (((w2.alloc (.cells #[.bool false, .int .i64 0, .int .i64 0, .int .i64 0, .int .u64 0, .int .u64 0, .int .i64 0, .int .u64 0, .int .i64 0, .slice none 0 0, .int .i64 0, .slice none 0 0] 32)).alloc (.cells #[.string { data := #[] }, .slice none 0 0, .int .i64 0, .int .i64 0, .bool false, .int .i64 0, .int .i64 0, .int .i64 0, .int .u64 0, .int .u64 0, .int .i64 0, .int .u64 0, .int .i64 0, .slice none 0 0, .int .i64 0, .slice none 0 0, .int .i64 0] 37)).heap[w2.heap.size]? = some (.cells #[.bool false, .int .i64 0, .int .i64 0, .int .i64 0, .int .u64 0, .int .u64 0, .int .i64 0, .int .u64 0, .int .i64 0, .slice none 0 0, .int .i64 0, .slice none 0 0] 32 (0, 0)) ∧ ((w2.alloc (.cells #[.bool false, .int .i64 0, .int .i64 0, .int .i64 0, .int .u64 0, .int .u64 0, .int .i64 0, .int .u64 0, .int .i64 0, .slice none 0 0, .int .i64 0, .slice none 0 0] 32)).alloc (.cells #[.string { data := #[] }, .slice none 0 0, .int .i64 0, .int .i64 0, .bool false, .int .i64 0, .int .i64 0, .int .i64 0, .int .u64 0, .int .u64 0, .int .i64 0, .int .u64 0, .int .i64 0, .slice none 0 0, .int .i64 0, .slice none 0 0, .int .i64 0] 37)).heap[w2.heap.size + 1]? = some (.cells #[.string { data := #[] }, .slice none 0 0, .int .i64 0, .int .i64 0, .bool false, .int .i64 0, .int .i64 0, .int .i64 0, .int .u64 0, .int .u64 0, .int .i64 0, .int .u64 0, .int .i64 0, .slice none 0 0, .int .i64 0, .slice none 0 0, .int .i64 0] 37 (0, 0)) ∧ Kept (fun _ => False) w2 ((w2.alloc (.cells #[.bool false, .int .i64 0, .int .i64 0, .int .i64 0, .int .u64 0, .int .u64 0, .int .i64 0, .int .u64 0, .int .i64 0, .slice none 0 0, .int .i64 0, .slice none 0 0] 32)).alloc (.cells #[.string { data := #[] }, .slice none 0 0, .int .i64 0, .int .i64 0, .bool false, .int .i64 0, .int .i64 0, .int .i64 0, .int .u64 0, .int .u64 0, .int .i64 0, .int .u64 0, .int .i64 0, .slice none 0 0, .int .i64 0, .slice none 0 0, .int .i64 0] 37))) := Lib.hid ⟨((Kept.refl (fun _ => False) _).alloc _).same (heap_alloc_new w2 _) (fun x => x), box_second2 w2 _ _, ((Kept.refl _ _).alloc _).alloc _⟩
  go_upto_region 3 with (first | (refine wpList_store_to rfl 32 (.tmp 2) _ rfl w2.heap.size NS1 rfl rfl 32 #[.bool false, .int .i64 0, .int .i64 0, .int .i64 0, .int .u64 0, .int .u64 0, .int .i64 0, .int .u64 0, .int .i64 0, .slice none 0 0, .int .i64 0, .slice none 0 0] HA2.out.1 HIS1.out.1 HIS1.out.2.1 HIS1.out.2.2 ?_; intro w3 hb3 k3; have HB3 := Lib.hid hb3; have HK3 := Lib.hid k3; clear hb3 k3) | (refine wpList_store_to rfl 37 (.tmp 3) _ rfl (w2.heap.size + 1) CY1 rfl rfl 37 #[.string { data := #[] }, .slice none 0 0, .int .i64 0, .int .i64 0, .bool false, .int .i64 0, .int .i64 0, .int .i64 0, .int .u64 0, .int .u64 0, .int .i64 0, .int .u64 0, .int .i64 0, .slice none 0 0, .int .i64 0, .slice none 0 0, .int .i64 0] (HK3.out.same HA2.out.2.1 (by omega)) HIY1.out.1 HIY1.out.2.1 HIY1.out.2.2 ?_; intro w4 hb4 k4; have HB4 := Lib.hid hb4; have HK4 := Lib.hid k4; clear hb4 k4))
  rw [← HG2.out]
  have HLT : Hid (g1 < g2 ∧ w.heap.size ≤ g2) := Lib.hid (by have h1 := (Array.getElem?_eq_some_iff.1 (HKc1.out.same HB1.out (fun x => x))).1; have := HG2.out; have := HG1.out; omega)
  have HKw4 : Hid (Kept (fun _ => False) w w4) := Lib.hid ((((HK1.out.trans HKc1.out).trans HA2.out.2.2).newer HK3.out (fun i e => by have := HLT.out; have := HG2.out; omega)).newer HK4.out (fun i e => by have := HLT.out; have := HG2.out; omega))
  have HF4 : Hid (w4.heap[g1]? = some (.cells CP1 37 (0, 0)) ∧ w4.heap[g2]? = some (.cells NS1 32 (0, 0)) ∧ w4.heap[g2 + 1]? = some (.cells CY1 37 (0, 0))) := Lib.hid (by have hl := HLT.out; have hg := HG2.out; refine ⟨HK4.out.same (HK3.out.same (HA2.out.2.2.same (HKc1.out.same HB1.out (fun x => x)) (fun x => x)) (by omega)) (by omega), ?_, ?_⟩; exact HK4.out.same (by rw [hg]; exact HB3.out) (by omega); rw [hg]; exact HB4.out)
  clear HA2 HB3 HB4 HK3 HK4 HN1
  obtain ⟨CQ0, hCQ0⟩ : ∃ a, a = (pntC (awY 10 10 5) (.slice none 0 0) (.slice none 0 0) (.slice none 0 0)) := ⟨_, rfl⟩
  obtain ⟨CQ, hCQ⟩ : ∃ a, a = (pntC (awY 10 20 5) (.slice none 0 0) (.slice none 0 0) (.slice none 0 0)) := ⟨_, rfl⟩
  obtain ⟨CP2, hCP2⟩ : ∃ a, a = (pntC (awY 10 20 3) (.slice none 0 0) (.slice none 0 0) (.slice none 0 0)) := ⟨_, rfl⟩
  have HI2 : Hid ((Try.prog.info? 37).map (·.size) = some CP2.size) := Lib.hid (point_info.trans (by rw [hCP2]; rfl))
  have HE0 : Hid (CQ0 = CP1.setIfInBounds 5 (.int .i64 10)) := Lib.hid (by rw [hCQ0, HCP1.out]; rfl)
  have HE1 : Hid (CQ = CQ0.setIfInBounds 6 (.int .i64 20)) := Lib.hid (by rw [hCQ, hCQ0]; rfl)
  have HE2 : Hid (CP2 = CQ.setIfInBounds 7 (.int .i64 3)) := Lib.hid (by rw [hCP2, hCQ]; rfl)
  have HCQ0 := Lib.hid hCQ0
  have HCQ := Lib.hid hCQ
  have HCP2 := Lib.hid hCP2
  rw [← hCP2] at HN2
  clear hCQ0 hCQ hCP2
  have pc : w4.cell? ⟨g1, 5, none⟩ = some (.int .i64 0) := cell_rowZ 5 _ HF4.out.1 (by rw [HCP1.out]; rfl)
  have pf := free_of_rowZ 5 HF4.out.1
  go_upto_region 4 with fail
  clear pc pf
  obtain ⟨w4b, hwn⟩ : ∃ w', w' = w4.setCell ⟨g1, 5, none⟩ (.int .i64 10) := ⟨_, rfl⟩
  have kk : Kept (fun i => i = g1) w4 w4b := by rw [hwn]; exact (Kept.refl (fun k => k = g1) w4).setCell (p := ⟨g1, 5, none⟩) (fun _ => rfl) _
  have hb : w4b.heap[g1]? = some (.cells CQ0 37 (0, 0)) := by rw [hwn, HE0.out]; exact heap_setCell_same _ _ 5 _ _ _ HF4.out.1
  have HF4b := Lib.hid (And.intro hb (And.intro (kk.same HF4.out.2.1 (by have := HLT.out; omega)) (kk.same HF4.out.2.2 (by have := HLT.out; omega))))
  have HKw4b := Lib.hid (HKw4.out.newer kk (fun i e => by have := HG1.out; omega))
  rw [← hwn]
  clear hwn kk hb
  have pc : w4b.cell? ⟨g1, 6, none⟩ = some (.int .i64 10) := cell_rowZ 6 _ HF4b.out.1 (by rw [HCQ0.out]; rfl)
  have pf := free_of_rowZ 6 HF4b.out.1
  go_upto_region 5 with fail
  clear pc pf
  obtain ⟨w5, hwn⟩ : ∃ w', w' = w4b.setCell ⟨g1, 6, none⟩ (.int .i64 20) := ⟨_, rfl⟩
  have kk : Kept (fun i => i = g1) w4b w5 := by rw [hwn]; exact (Kept.refl (fun k => k = g1) w4b).setCell (p := ⟨g1, 6, none⟩) (fun _ => rfl) _
  have hb : w5.heap[g1]? = some (.cells CQ 37 (0, 0)) := by rw [hwn, HE1.out]; exact heap_setCell_same _ _ 6 _ _ _ HF4b.out.1
  have HF5 := Lib.hid (And.intro hb (And.intro (kk.same HF4b.out.2.1 (by have := HLT.out; omega)) (kk.same HF4b.out.2.2 (by have := HLT.out; omega))))
  have HKw5 := Lib.hid (HKw4b.out.newer kk (fun i e => by have := HG1.out; omega))
  rw [← hwn]
  clear hwn kk hb
  have pc : w5.cell? ⟨g1, 7, none⟩ = some (.int .i64 5) := cell_rowZ 7 _ HF5.out.1 (by rw [HCQ.out]; rfl)
  have pf := free_of_rowZ 7 HF5.out.1
  go_upto_region 6 with fail
  clear pc pf
  obtain ⟨w6, hwn⟩ : ∃ w', w' = w5.setCell ⟨g1, 7, none⟩ (.int .i64 3) := ⟨_, rfl⟩
  have kk : Kept (fun i => i = g1) w5 w6 := by rw [hwn]; exact (Kept.refl (fun k => k = g1) w5).setCell (p := ⟨g1, 7, none⟩) (fun _ => rfl) _
  have hb : w6.heap[g1]? = some (.cells CP2 37 (0, 0)) := by rw [hwn, HE2.out]; exact heap_setCell_same _ _ 7 _ _ _ HF5.out.1
  have HF6 := Lib.hid (And.intro hb (And.intro (kk.same HF5.out.2.1 (by have := HLT.out; omega)) (kk.same HF5.out.2.2 (by have := HLT.out; omega))))
  have HKw6 := Lib.hid (HKw5.out.newer kk (fun i e => by have := HG1.out; omega))
  rw [← hwn]
  clear hwn kk hb
  clear HF4 HF4b HF5 HKw4 HKw4b HKw5
  go_wp2_with (first
    | (refine wpList_load_row rfl 32 (.tmp 2) rfl g2 rfl 32 _ (0, 0) _ HF6.out.2.1 Try.underlying32 rfl HIS1.out.1 ?_)
    | (refine wpList_load_row rfl 37 (.tmp 1) rfl g1 rfl 37 _ (0, 0) _ HF6.out.1 Try.underlying37 rfl HI2.out ?_)
    | fail)
  rw [HNS1.out]
  refine (HN2.out _ _ w6 HZZ1.out).mono ?_
  rintro e w7 ⟨NS2, CY2, tp2, tn2, a2, b2, c2, m2, n2, k2, rfl, hNS2, ho2, hCY2, kk2⟩
  have HIS2 : Hid ((Try.prog.info? 32).map (·.size) = some NS2.size ∧ (#[.bool false, .int .i64 0, .int .i64 0, .int .i64 0, .int .u64 0, .int .u64 0, .int .i64 0, .int .u64 0, .int .i64 0, .slice none 0 0, .int .i64 0, .slice none 0 0] : Array Value).size = NS2.size ∧ NS2.all (·.oneCell') = true) := Lib.hid (by rw [hNS2]; exact ⟨state_info, rfl, stC_one ho2.one⟩)
  have HIY2 : Hid ((Try.prog.info? 37).map (·.size) = some CY2.size ∧ (#[.string { data := #[] }, .slice none 0 0, .int .i64 0, .int .i64 0, .bool false, .int .i64 0, .int .i64 0, .int .i64 0, .int .u64 0, .int .u64 0, .int .i64 0, .int .u64 0, .int .i64 0, .slice none 0 0, .int .i64 0, .slice none 0 0, .int .i64 0] : Array Value).size = CY2.size ∧ CY2.all (·.oneCell') = true) := Lib.hid (by rw [hCY2]; exact ⟨point_info, rfl, pntC_one' (ones_slices _ _ _ _ _ _ _ _ _)⟩)
  have HNS2 := Lib.hid hNS2
  have HZZ2 := Lib.hid ho2
  have HCY2 := Lib.hid hCY2
  have HKc2 := Lib.hid kk2
  clear hNS2 ho2 hCY2 kk2
  rw [← HNS1.out]
  obtain ⟨g5, hg5⟩ : ∃ g, g = w7.heap.size := ⟨_, rfl⟩
  have HG5 := Lib.hid hg5
  clear hg5
  have HA5 : Hid ((w7.alloc (.cells #[.string { data := #[] }, .slice none 0 0, .int .i64 0, .int .i64 0, .bool false, .int .i64 0, .int .i64 0, .int .i64 0, .int .u64 0, .int .u64 0, .int .i64 0, .int .u64 0, .int .i64 0, .slice none 0 0, .int .i64 0, .slice none 0 0, .int .i64 0] 37)).heap[w7.heap.size]? = some (.cells #[.string { data := #[] }, .slice none 0 0, .int .i64 0, .int .i64 0, .bool false, .int .i64 0, .int .i64 0, .int .i64 0, .int .u64 0, .int .u64 0, .int .i64 0, .int .u64 0, .int .i64 0, .slice none 0 0, .int .i64 0, .slice none 0 0, .int .i64 0] 37 (0, 0)) ∧ Kept (fun _ => False) w7 (w7.alloc (.cells #[.string { data := #[] }, .slice none 0 0, .int .i64 0, .int .i64 0, .bool false, .int .i64 0, .int .i64 0, .int .i64 0, .int .u64 0, .int .u64 0, .int .i64 0, .int .u64 0, .int .i64 0, .slice none 0 0, .int .i64 0, .slice none 0 0, .int .i64 0] 37))) := Lib.hid ⟨heap_alloc_new w7 _, (Kept.refl _ _).alloc _⟩
  have HL5 : Hid (g2 + 1 < w7.heap.size) := Lib.hid (Array.getElem?_eq_some_iff.1 (HKc2.out.same HF6.out.2.2 (fun x => x))).1
  go_upto_region 7 with (first | (refine wpList_store_to rfl 32 (.tmp 2) _ rfl g2 NS2 rfl rfl 32 NS1 (HA5.out.2.same (HKc2.out.same HF6.out.2.1 (fun x => x)) (fun x => x)) HIS2.out.1 (HIS1.out.2.1.symm.trans HIS2.out.2.1) HIS2.out.2.2 ?_; intro w8 hb8 k8; have HB8 := Lib.hid hb8; have HK8 := Lib.hid k8; clear hb8 k8) | (refine wpList_store_to rfl 37 (.tmp 5) _ rfl w7.heap.size CY2 rfl rfl 37 #[.string { data := #[] }, .slice none 0 0, .int .i64 0, .int .i64 0, .bool false, .int .i64 0, .int .i64 0, .int .i64 0, .int .u64 0, .int .u64 0, .int .i64 0, .int .u64 0, .int .i64 0, .slice none 0 0, .int .i64 0, .slice none 0 0, .int .i64 0] (HK8.out.same HA5.out.1 (by have := HL5.out; omega)) HIY2.out.1 HIY2.out.2.1 HIY2.out.2.2 ?_; intro w9 hb9 k9; have HB9 := Lib.hid hb9; have HK9 := Lib.hid k9; clear hb9 k9))
  rw [← HG5.out]
  have HL6 : Hid (g2 + 1 < g5) := Lib.hid (by have := HL5.out; have := HG5.out; omega)
  have HKw9 : Hid (Kept (fun _ => False) w w9) := Lib.hid ((((HKw6.out.trans HKc2.out).trans HA5.out.2).newer HK8.out (fun i e => by have := HLT.out; omega)).newer HK9.out (fun i e => by have := HLT.out; have := HL5.out; omega))
  have HF9 : Hid (w9.heap[g1]? = some (.cells CP2 37 (0, 0)) ∧ w9.heap[g2]? = some (.cells NS2 32 (0, 0)) ∧ w9.heap[g2 + 1]? = some (.cells CY1 37 (0, 0)) ∧ w9.heap[g5]? = some (.cells CY2 37 (0, 0))) := Lib.hid (by have hl := HLT.out; have hg := HG5.out; have h6 := HL6.out; refine ⟨HK9.out.same (HK8.out.same (HA5.out.2.same (HKc2.out.same HF6.out.1 (fun x => x)) (fun x => x)) (by omega)) (by omega), HK9.out.same HB8.out (by omega), HK9.out.same (HK8.out.same (HA5.out.2.same (HKc2.out.same HF6.out.2.2 (fun x => x)) (fun x => x)) (by omega)) (by omega), ?_⟩; rw [hg]; exact HB9.out)
  clear HA5 HB8 HB9 HK8 HK9 HN2 HF6 HKw6
  obtain ⟨CR0, hCR0⟩ : ∃ a, a = (pntC (awY 25 20 3) (.slice none 0 0) (.slice none 0 0) (.slice none 0 0)) := ⟨_, rfl⟩
  obtain ⟨CR, hCR⟩ : ∃ a, a = (pntC (awY 25 30 3) (.slice none 0 0) (.slice none 0 0) (.slice none 0 0)) := ⟨_, rfl⟩
  obtain ⟨CP3, hCP3⟩ : ∃ a, a = (pntC (awY 25 30 2) (.slice none 0 0) (.slice none 0 0) (.slice none 0 0)) := ⟨_, rfl⟩
  have HI3 : Hid ((Try.prog.info? 37).map (·.size) = some CP3.size) := Lib.hid (point_info.trans (by rw [hCP3]; rfl))
  have HE30 : Hid (CR0 = CP2.setIfInBounds 5 (.int .i64 25)) := Lib.hid (by rw [hCR0, HCP2.out]; rfl)
  have HE3 : Hid (CR = CR0.setIfInBounds 6 (.int .i64 30)) := Lib.hid (by rw [hCR, hCR0]; rfl)
  have HE4 : Hid (CP3 = CR.setIfInBounds 7 (.int .i64 2)) := Lib.hid (by rw [hCP3, hCR]; rfl)
  have HCR0 := Lib.hid hCR0
  have HCR := Lib.hid hCR
  rw [← hCP3] at HN3
  clear hCR0 hCR hCP3
  have pc : w9.cell? ⟨g1, 5, none⟩ = some (.int .i64 10) := cell_rowZ 5 _ HF9.out.1 (by rw [HCP2.out]; rfl)
  have pf := free_of_rowZ 5 HF9.out.1
  go_upto_region 8 with fail
  clear pc pf
  obtain ⟨w9b, hwn⟩ : ∃ w', w' = w9.setCell ⟨g1, 5, none⟩ (.int .i64 25) := ⟨_, rfl⟩
  have kk : Kept (fun i => i = g1) w9 w9b := by rw [hwn]; exact (Kept.refl (fun k => k = g1) w9).setCell (p := ⟨g1, 5, none⟩) (fun _ => rfl) _
  have hb : w9b.heap[g1]? = some (.cells CR0 37 (0, 0)) := by rw [hwn, HE30.out]; exact heap_setCell_same _ _ 5 _ _ _ HF9.out.1
  have HF9b := Lib.hid (And.intro hb (And.intro (kk.same HF9.out.2.1 (by have := HLT.out; omega)) (And.intro (kk.same HF9.out.2.2.1 (by have := HLT.out; omega)) (kk.same HF9.out.2.2.2 (by have := HLT.out; have := HL6.out; omega)))))
  have HKw9b := Lib.hid (HKw9.out.newer kk (fun i e => by have := HG1.out; omega))
  rw [← hwn]
  clear hwn kk hb
  have pc : w9b.cell? ⟨g1, 6, none⟩ = some (.int .i64 20) := cell_rowZ 6 _ HF9b.out.1 (by rw [HCR0.out]; rfl)
  have pf := free_of_rowZ 6 HF9b.out.1
  go_upto_region 9 with fail
  clear pc pf
  obtain ⟨w10, hwn⟩ : ∃ w', w' = w9b.setCell ⟨g1, 6, none⟩ (.int .i64 30) := ⟨_, rfl⟩
  have kk : Kept (fun i => i = g1) w9b w10 := by rw [hwn]; exact (Kept.refl (fun k => k = g1) w9b).setCell (p := ⟨g1, 6, none⟩) (fun _ => rfl) _
  have hb : w10.heap[g1]? = some (.cells CR 37 (0, 0)) := by rw [hwn, HE3.out]; exact heap_setCell_same _ _ 6 _ _ _ HF9b.out.1
  have HF10 := Lib.hid (And.intro hb (And.intro (kk.same HF9b.out.2.1 (by have := HLT.out; omega)) (And.intro (kk.same HF9b.out.2.2.1 (by have := HLT.out; omega)) (kk.same HF9b.out.2.2.2 (by have := HLT.out; have := HL6.out; omega)))))
  have HKw10 := Lib.hid (HKw9b.out.newer kk (fun i e => by have := HG1.out; omega))
  rw [← hwn]
  clear hwn kk hb
  have pc : w10.cell? ⟨g1, 7, none⟩ = some (.int .i64 3) := cell_rowZ 7 _ HF10.out.1 (by rw [HCR.out]; rfl)
  have pf := free_of_rowZ 7 HF10.out.1
  go_upto_region 10 with fail
  clear pc pf
  obtain ⟨w11, hwn⟩ : ∃ w', w' = w10.setCell ⟨g1, 7, none⟩ (.int .i64 2) := ⟨_, rfl⟩
  have kk : Kept (fun i => i = g1) w10 w11 := by rw [hwn]; exact (Kept.refl (fun k => k = g1) w10).setCell (p := ⟨g1, 7, none⟩) (fun _ => rfl) _
  have hb : w11.heap[g1]? = some (.cells CP3 37 (0, 0)) := by rw [hwn, HE4.out]; exact heap_setCell_same _ _ 7 _ _ _ HF10.out.1
  have HF11 := Lib.hid (And.intro hb (And.intro (kk.same HF10.out.2.1 (by have := HLT.out; omega)) (And.intro (kk.same HF10.out.2.2.1 (by have := HLT.out; omega)) (kk.same HF10.out.2.2.2 (by have := HLT.out; have := HL6.out; omega)))))
  have HKw11 := Lib.hid (HKw10.out.newer kk (fun i e => by have := HG1.out; omega))
  rw [← hwn]
  clear hwn kk hb
  clear HF9 HF9b HF10 HKw9 HKw9b HKw10
  go_wp2_with (first
    | (refine wpList_load_row rfl 32 (.tmp 2) rfl g2 rfl 32 _ (0, 0) _ HF11.out.2.1 Try.underlying32 rfl HIS2.out.1 ?_)
    | (refine wpList_load_row rfl 37 (.tmp 1) rfl g1 rfl 37 _ (0, 0) _ HF11.out.1 Try.underlying37 rfl HI3.out ?_)
    | fail)
  rw [HNS2.out]
  refine (HN3.out _ _ w11 HZZ2.out).mono ?_
  rintro e w12 ⟨NS3, CY3, tp3, tn3, a3, b3, c3, m3, n3, k3, rfl, hNS3, ho3, hCY3, kk3⟩
  have HIS3 : Hid ((Try.prog.info? 32).map (·.size) = some NS3.size ∧ (#[.bool false, .int .i64 0, .int .i64 0, .int .i64 0, .int .u64 0, .int .u64 0, .int .i64 0, .int .u64 0, .int .i64 0, .slice none 0 0, .int .i64 0, .slice none 0 0] : Array Value).size = NS3.size ∧ NS3.all (·.oneCell') = true) := Lib.hid (by rw [hNS3]; exact ⟨state_info, rfl, stC_one ho3.one⟩)
  have HIY3 : Hid ((Try.prog.info? 37).map (·.size) = some CY3.size ∧ (#[.string { data := #[] }, .slice none 0 0, .int .i64 0, .int .i64 0, .bool false, .int .i64 0, .int .i64 0, .int .i64 0, .int .u64 0, .int .u64 0, .int .i64 0, .int .u64 0, .int .i64 0, .slice none 0 0, .int .i64 0, .slice none 0 0, .int .i64 0] : Array Value).size = CY3.size ∧ CY3.all (·.oneCell') = true) := Lib.hid (by rw [hCY3]; exact ⟨point_info, rfl, pntC_one' (ones_slices _ _ _ _ _ _ _ _ _)⟩)
  have HNS3 := Lib.hid hNS3
  have HZZ3 := Lib.hid ho3
  have HCY3 := Lib.hid hCY3
  have HKc3 := Lib.hid kk3
  clear hNS3 ho3 hCY3 kk3
  rw [← HNS2.out]
  obtain ⟨g7, hg7⟩ : ∃ g, g = w12.heap.size := ⟨_, rfl⟩
  have HG7 := Lib.hid hg7
  clear hg7
  have HA7 : Hid (((w12.alloc (.cells #[.bool false, .int .i64 0, .int .i64 0, .int .i64 0, .int .u64 0, .int .u64 0, .int .i64 0, .int .u64 0, .int .i64 0, .slice none 0 0, .int .i64 0, .slice none 0 0] 32)).alloc (.cells #[.string { data := #[] }, .slice none 0 0, .int .i64 0, .int .i64 0, .bool false, .int .i64 0, .int .i64 0, .int .i64 0, .int .u64 0, .int .u64 0, .int .i64 0, .int .u64 0, .int .i64 0, .slice none 0 0, .int .i64 0, .slice none 0 0, .int .i64 0] 37)).heap[w12.heap.size]? = some (.cells #[.bool false, .int .i64 0, .int .i64 0, .int .i64 0, .int .u64 0, .int .u64 0, .int .i64 0, .int .u64 0, .int .i64 0, .slice none 0 0, .int .i64 0, .slice none 0 0] 32 (0, 0)) ∧ ((w12.alloc (.cells #[.bool false, .int .i64 0, .int .i64 0, .int .i64 0, .int .u64 0, .int .u64 0, .int .i64 0, .int .u64 0, .int .i64 0, .slice none 0 0, .int .i64 0, .slice none 0 0] 32)).alloc (.cells #[.string { data := #[] }, .slice none 0 0, .int .i64 0, .int .i64 0, .bool false, .int .i64 0, .int .i64 0, .int .i64 0, .int .u64 0, .int .u64 0, .int .i64 0, .int .u64 0, .int .i64 0, .slice none 0 0, .int .i64 0, .slice none 0 0, .int .i64 0] 37)).heap[w12.heap.size + 1]? = some (.cells #[.string { data := #[] }, .slice none 0 0, .int .i64 0, .int .i64 0, .bool false, .int .i64 0, .int .i64 0, .int .i64 0, .int .u64 0, .int .u64 0, .int .i64 0, .int .u64 0, .int .i64 0, .slice none 0 0, .int .i64 0, .slice none 0 0, .int .i64 0] 37 (0, 0)) ∧ Kept (fun _ => False) w12 ((w12.alloc (.cells #[.bool false, .int .i64 0, .int .i64 0, .int .i64 0, .int .u64 0, .int .u64 0, .int .i64 0, .int .u64 0, .int .i64 0, .slice none 0 0, .int .i64 0, .slice none 0 0] 32)).alloc (.cells #[.string { data := #[] }, .slice none 0 0, .int .i64 0, .int .i64 0, .bool false, .int .i64 0, .int .i64 0, .int .i64 0, .int .u64 0, .int .u64 0, .int .i64 0, .int .u64 0, .int .i64 0, .slice none 0 0, .int .i64 0, .slice none 0 0, .int .i64 0] 37))) := Lib.hid ⟨((Kept.refl (fun _ => False) _).alloc _).same (heap_alloc_new w12 _) (fun x => x), box_second2 w12 _ _, ((Kept.refl _ _).alloc _).alloc _⟩
  have HL7 : Hid (g5 < w12.heap.size) := Lib.hid (Array.getElem?_eq_some_iff.1 (HKc3.out.same HF11.out.2.2.2 (fun x => x))).1
  go_upto_region 11 with (first | (refine wpList_store_to rfl 32 (.tmp 7) _ rfl w12.heap.size NS3 rfl rfl 32 #[.bool false, .int .i64 0, .int .i64 0, .int .i64 0, .int .u64 0, .int .u64 0, .int .i64 0, .int .u64 0, .int .i64 0, .slice none 0 0, .int .i64 0, .slice none 0 0] HA7.out.1 HIS3.out.1 HIS3.out.2.1 HIS3.out.2.2 ?_; intro w13 hb13 k13; have HK13 := Lib.hid k13; clear hb13 k13) | (refine wpList_store_to rfl 37 (.tmp 8) _ rfl (w12.heap.size + 1) CY3 rfl rfl 37 #[.string { data := #[] }, .slice none 0 0, .int .i64 0, .int .i64 0, .bool false, .int .i64 0, .int .i64 0, .int .i64 0, .int .u64 0, .int .u64 0, .int .i64 0, .int .u64 0, .int .i64 0, .slice none 0 0, .int .i64 0, .slice none 0 0, .int .i64 0] (HK13.out.same HA7.out.2.1 (by omega)) HIY3.out.1 HIY3.out.2.1 HIY3.out.2.2 ?_; intro w14 hb14 k14; have HB14 := Lib.hid hb14; have HK14 := Lib.hid k14; clear hb14 k14))
  rw [← HG7.out]
  have hl := HLT.out
  have hg := HG7.out
  have h6 := HL6.out
  have h7 := HL7.out
  have hz := HG1.out
  have HKw : Hid (Kept (fun _ => False) w w14) := Lib.hid ((((HKw11.out.trans HKc3.out).trans HA7.out.2.2).newer HK13.out (fun i e => by omega)).newer HK14.out (fun i e => by omega))
  have F3 := HK14.out.same (HK13.out.same (HA7.out.2.2.same (HKc3.out.same HF11.out.2.2.1 (fun x => x)) (fun x => x)) (by omega)) (by omega)
  have F5 := HK14.out.same (HK13.out.same (HA7.out.2.2.same (HKc3.out.same HF11.out.2.2.2 (fun x => x)) (fun x => x)) (by omega)) (by omega)
  have F8 := HB14.out
  rw [← hg] at F8
  have x1 : w14.cell? ⟨g2 + 1, 16, none⟩ = some (.int .i64 1) := cell_rowZ 16 _ F3 (by rw [HCY1.out]; rfl)
  have x2 : w14.cell? ⟨g2 + 1, 7, none⟩ = some (.int .i64 5) := cell_rowZ 7 _ F3 (by rw [HCY1.out]; rfl)
  have x3 : w14.cell? ⟨g2 + 1, 3, none⟩ = some (.int .i64 1) := cell_rowZ 3 _ F3 (by rw [HCY1.out]; rfl)
  have x4 : w14.cell? ⟨g5, 16, none⟩ = some (.int .i64 0) := cell_rowZ 16 _ F5 (by rw [HCY2.out]; rfl)
  have x5 : w14.cell? ⟨g5, 7, none⟩ = some (.int .i64 8) := cell_rowZ 7 _ F5 (by rw [HCY2.out]; rfl)
  have x6 : w14.cell? ⟨g5, 5, none⟩ = some (.int .i64 0) := cell_rowZ 5 _ F5 (by rw [HCY2.out]; rfl)
  have x7 : w14.cell? ⟨g7 + 1, 16, none⟩ = some (.int .i64 8) := cell_rowZ 16 _ F8 (by rw [HCY3.out]; rfl)
  have x8 : w14.cell? ⟨g7 + 1, 7, none⟩ = some (.int .i64 2) := cell_rowZ 7 _ F8 (by rw [HCY3.out]; rfl)
  have x9 : w14.cell? ⟨g7 + 1, 5, none⟩ = some (.int .i64 25) := cell_rowZ 5 _ F8 (by rw [HCY3.out]; rfl)
  clear hl hg h6 h7 hz F3 F5 F8 HA7
  go_wp2
  go_ret
  exact ⟨rfl, HKw.out⟩
end Go.Proofs.Ytiiibhdohlpodaa

namespace Go.Proofs.Ytiiibhdohlpodaa
open Go.RowKit
attribute [local go_sem ↓] Go.wp_at_zero Go.wp_at_succ
set_option maxHeartbeats 4000000 in
theorem some_any (ao : Option Addr) (c : Nat) (L : List PtV) (w : World) (hl : PtsIn w ao L) :
    Calls Try.prog 34 #[.slice ao L.length c, .int .i64 20] w fun e w' => e = .returned (.bool (someB L)) ∧ Kept (fun _ => False) w w' := by
  obtain ⟨n, hn⟩ : ∃ n, n = L.length := ⟨_, rfl⟩
  unfold someB
  rw [← hn]
  by_cases h20 : n ≤ 20
  case neg =>
    have q1 : decide ((20 : Int) < (n : Int)) = true := decide_eq_true (by omega)
    rw [decide_eq_false h20, Bool.false_and]
    clear hn h20 hl
    go_enter Try.func34, Try.ntmps34
    go_wp2
    go_ret
    exact ⟨rfl, Kept.refl _ _⟩
  have q1 : decide ((20 : Int) < (n : Int)) = false := decide_eq_false (by omega)
  rw [decide_eq_true h20, Bool.true_and]
  have HN := Lib.hid (And.intro hn h20)
  have HL := Lib.hid (fun w' (k : Kept (fun _ => False) w w') => hl.on k)
  have HLT : Hid (∀ w' (p : PtV), Kept (fun _ => False) w w' → p ∈ L → Calls Try.prog 20 #[.agg p.cs] w' fun e w'' => e = .returned (.bool (lightP p.x)) ∧ Kept (fun _ => False) w' w'') := Lib.hid (fun w' p k hp => refLight12_any p.x p.aa p.pa p.na p.ac p.pc p.nc w' ((hl.each p hp).1.on k) (hl.each p hp).2.2)
  clear hn h20 hl
  go_enter Try.func34, Try.ntmps34
  go_wp2
  go_loopg [5] n (fun g s5 wr => ∃ i : Nat, i ≤ n ∧ g = n - i ∧ s5 = .int .i64 i ∧ (L.take i).all (fun p => lightP p.x) = true ∧ Kept (fun _ => False) w wr)
  case atStart => exact ⟨0, Nat.zero_le _, rfl, rfl, rfl, Kept.refl _ _⟩
  case round =>
    obtain ⟨i, hin, rfl, rfl, ha, kw⟩ := hrel
    have HA := Lib.hid ha
    have HK := Lib.hid kw
    clear ha kw
    by_cases hd : i < n
    · have hdi : (i : Int) < (n : Int) := by omega
      have hi0 : (0 : Int) ≤ (i : Int) := by omega
      have HD := Lib.hid hd
      have wi : IntKind.i64.wrap ((i : Int) + 1) = ((i + 1 : Nat) : Int) := by rw [IntWalk.i64_in _ ⟨by omega, by have := HN.out.2; omega⟩]; omega
      have hiL : i < L.length := by have := HN.out.1; omega
      obtain ⟨gb, ob, rfl, hrec⟩ := (HL.out wr HK.out).at_ (by omega)
      have hp := List.getElem?_eq_getElem hiL
      obtain ⟨p, hpp⟩ : ∃ p, p = L[i] := ⟨_, rfl⟩
      rw [← hpp] at hp
      have HR := Lib.hid (range_of (hrec i p hp))
      have HP := Lib.hid hp
      have HCL := Lib.hid (HLT.out wr p HK.out (List.mem_of_getElem? hp))
      obtain ⟨b, hb⟩ : ∃ b, b = lightP p.x := ⟨_, rfl⟩
      rw [← hb] at HCL
      have HB := Lib.hid hb
      obtain ⟨CP, hCP⟩ : ∃ c, c = p.cs := ⟨_, rfl⟩
      rw [← hCP] at HR HCL
      have HIP : Hid ((Try.prog.info? 37).map (·.size) = some CP.size) := Lib.hid (by rw [hCP]; exact pt_size p)
      clear hd hin hrec hiL hpp hp hb hCP
      go_wp2_with (first
        | (refine wpList_load_part rfl 37 (.tmp 18) rfl gb (ob + i * 17) rfl CP _ HR.out Try.underlying37 rfl HIP.out ?_)
        | fail)
      refine HCL.out.mono ?_
      rintro e w1 ⟨rfl, k1⟩
      have HK1 := Lib.hid (HK.out.trans k1)
      clear k1
      cases b with
      | false =>
        go_wp2
        go_ret
        exact ⟨ret_bool (all_false HP.out HB.out.symm).symm, HK1.out⟩
      | true =>
        go_wp2
        go_roundg (n - (i + 1))
        case measure => have := HD.out; omega
        case rel => exact ⟨i + 1, HD.out, rfl, rfl, by rw [all_take_succ HP.out, HA.out, ← HB.out]; rfl, HK1.out⟩
    · obtain rfl : n = i := by omega
      have ha := HA.out
      rw [List.take_of_length_le (by rw [HN.out.1]; exact Nat.le_refl _)] at ha
      have HA2 := Lib.hid ha
      clear hd ha
      go_wp2
      go_ret
      exact ⟨ret_bool HA2.out.symm, HK.out⟩
/-- Is a point of the first one's kind? -/
def alikeB (L : List PtV) (p : PtV) : Bool := match L[0]? with
  | some z => (p.x.kind == z.x.kind) && (p.x.mono == z.x.mono)
  | none => true
/-- Are all points of one series, few and light? -/
def oneB (L : List PtV) : Bool := someB L && L.all (alikeB L)
end Go.Proofs.Ytiiibhdohlpodaa

