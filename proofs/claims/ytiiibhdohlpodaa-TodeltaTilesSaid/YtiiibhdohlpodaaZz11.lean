/- Texts put together: what the theorem stands on. -/
import Derived.Test.YtiiibhdohlpodaaZz4
import Derived.Test.YtiiibhdohlpodaaZz10
import Derived.Great.BuildSlice

namespace Go.Proofs.Ytiiibhdohlpodaa
open Go.RowKit
attribute [local go_sem ↓] Go.wp_at_zero Go.wp_at_succ
/-- An element whose parts are new. -/
def PtV.New (W w : World) (p : PtV) : Prop := NewP W w p.x p.aa p.pa p.na p.ac p.pc p.nc
theorem PtV.New.on {W w w' : World} {p : PtV} (h : p.New W w) (k : Kept (fun _ => False) w w') : p.New W w' := NewP.on h k
theorem PtV.New.set {W w w' : World} {p : PtV} {k : Nat} {cs : Array Value} {T : TypeId} (h : p.New W w) (hb : w.heap[k]? = some (.cells cs T (0, 0))) (h1 : 101 ≠ T) (h2 : 25 ≠ T) (h0 : W.heap.size ≤ k) (kk : Kept (fun i => i = k) w w') : p.New W w' := NewP.set h hb h1 h2 h0 kk
theorem PtV.New.row {W w w' : World} {p : PtV} {v : Value} {L : List PtV} (h : p.New W w) (m : MineT W w v L) (kk : Kept (fun k => v.ownBlock = some k) w w') : p.New W w' := by
  have key : ∀ {v' : Value} {E : TypeId} {B s n : Nat} {xs : List Value}, w.ownsRow B E s v' n xs → E ≠ 37 → ∀ k, v'.ownBlock = some k → ¬ v.ownBlock = some k := by
    intro v' E B s n xs ho hne k e e2
    obtain ⟨cur, hc⟩ := ownsRow_block m.own e2
    exact own_box ho hc hne e
  have hlt : ∀ k, v.ownBlock = some k → W.heap.size ≤ k := fun k e => (ownsRow_lt m.own e).2
  exact ⟨h.at_.keptS kk (key h.at_.own (by decide)) hlt, h.mp.keptS kk (key h.mp.own (by decide)) hlt, h.mn.keptS kk (key h.mn.own (by decide)) hlt⟩
theorem GotP.ptv2 {W w : World} {x : Pnt} {v : Value} (h : GotP W w x v) : ∃ p : PtV, p.x = x ∧ v = .agg p.cs ∧ p.New W w := by
  obtain ⟨a1, a2, a3, c1, c2, c3, rfl, n⟩ := h
  exact ⟨⟨x, a1, a2, a3, c1, c2, c3⟩, rfl, rfl, n⟩
theorem StN.on {W w w' : World} {h : HistV} {p n : Value} (x : StN W w h p n) (k : Kept (fun _ => False) w w') : StN W w' h p n := by
  obtain ⟨a, b, c, d, e1, e2, hn⟩ := x
  exact ⟨a, b, c, d, e1, e2, hn.on k⟩
theorem StN.down {W0 W w : World} {h : HistV} {p n : Value} (x : StN W w h p n) (k : Kept (fun _ => False) W0 W) : StN W0 w h p n := by
  obtain ⟨a, b, c, d, e1, e2, hn⟩ := x
  exact ⟨a, b, c, d, e1, e2, hn.down k⟩
theorem StN.set {W w w' : World} {h : HistV} {p n : Value} {k : Nat} {cs : Array Value} {T : TypeId} (x : StN W w h p n) (hb : w.heap[k]? = some (.cells cs T (0, 0))) (h2 : 25 ≠ T) (h0 : W.heap.size ≤ k) (kk : Kept (fun i => i = k) w w') : StN W w' h p n := by
  obtain ⟨a, b, c, d, e1, e2, hn⟩ := x
  exact ⟨a, b, c, d, e1, e2, hn.set hb h2 h0 kk⟩
theorem StN.row {W w w' : World} {h : HistV} {p n v : Value} {L : List PtV} (x : StN W w h p n) (m : MineT W w v L) (kk : Kept (fun k => v.ownBlock = some k) w w') : StN W w' h p n := by
  obtain ⟨a, b, c, d, e1, e2, hn⟩ := x
  have key : ∀ {v' : Value} {E : TypeId} {B s n : Nat} {xs : List Value}, w.ownsRow B E s v' n xs → E ≠ 37 → ∀ k, v'.ownBlock = some k → ¬ v.ownBlock = some k := by
    intro v' E B s n xs ho hne k e e2
    obtain ⟨cur, hc⟩ := ownsRow_block m.own e2
    exact own_box ho hc hne e
  have hlt : ∀ k, v.ownBlock = some k → W.heap.size ≤ k := fun k e => (ownsRow_lt m.own e).2
  exact ⟨a, b, c, d, e1, e2, ⟨hn.mp.keptS kk (key hn.mp.own (by decide)) hlt, hn.mn.keptS kk (key hn.mn.own (by decide)) hlt⟩⟩
theorem StN.one {W w : World} {h : HistV} {p n : Value} (x : StN W w h p n) : p.oneCell' = true ∧ n.oneCell' = true := by
  obtain ⟨a, b, c, d, rfl, rfl, hn⟩ := x
  exact ⟨rfl, rfl⟩
theorem StN.nil {W w : World} (k : Kept (fun _ => False) W w) : StN W w zeroHV (.slice none 0 0) (.slice none 0 0) := ⟨none, none, 0, 0, rfl, rfl, HN.nil k⟩
theorem StN.in_ {W w : World} {h : HistV} {p n : Value} (x : StN W w h p n) (ok : h.ok) : HistIn w h p n := by
  obtain ⟨a, b, c, d, rfl, rfl, hn⟩ := x
  exact hn.in_ ok
/-- An answer and a state, both new. -/
structure New2 (W w : World) (q : PtV) (h : HistV) (p n : Value) : Prop where
  pt : q.New W w
  st : StN W w h p n
section
variable {W0 W w w' : World} {q : PtV} {h : HistV} {p n : Value}
theorem New2.on (x : New2 W w q h p n) (k : Kept (fun _ => False) w w') : New2 W w' q h p n := ⟨x.pt.on k, x.st.on k⟩
theorem New2.down (x : New2 W w q h p n) (k : Kept (fun _ => False) W0 W) : New2 W0 w q h p n := ⟨NewP.down x.pt k, x.st.down k⟩
theorem New2.set {k : Nat} {cs : Array Value} {T : TypeId} (x : New2 W w q h p n) (hb : w.heap[k]? = some (.cells cs T (0, 0))) (h1 : 101 ≠ T) (h2 : 25 ≠ T) (h0 : W.heap.size ≤ k) (kk : Kept (fun i => i = k) w w') : New2 W w' q h p n := ⟨x.pt.set hb h1 h2 h0 kk, x.st.set hb h2 h0 kk⟩
theorem New2.row {v : Value} {L : List PtV} (x : New2 W w q h p n) (m : MineT W w v L) (kk : Kept (fun k => v.ownBlock = some k) w w') : New2 W w' q h p n := ⟨x.pt.row m kk, x.st.row m kk⟩
end
/-- What holds of a state. -/
structure SFine (s : StV) : Prop where
  h : s.h.ok
  lp : s.h.pl.length ≤ 1000000
  ln : s.h.nl.length ≤ 1000000
  re : U64I s.re
  im : U64I s.im
theorem zeroSt_fine : SFine zeroSt := ⟨zeroHV_ok, Nat.zero_le _, Nat.zero_le _, ⟨by decide, by decide⟩, ⟨by decide, by decide⟩⟩
end Go.Proofs.Ytiiibhdohlpodaa

namespace Go.Proofs.Ytiiibhdohlpodaa
open Go.RowKit
open Ieee
/-- Is that word not below nought? -/
def geZ (x : Nat) : Prop := double.order x 0 ≠ some .lt
theorem lessI_zero (a : Int) : lessI a 0 = false ↔ geZ a.toNat := by
  unfold lessI geZ
  constructor
  · intro h e
    rw [show ((0 : Int).toNat) = 0 from rfl] at h
    rw [e] at h
    exact absurd h (by decide)
  · intro h
    rw [show ((0 : Int).toNat) = 0 from rfl, beq_eq_false_iff_ne]
    exact h
theorem signed_nonneg (m up : Nat) : 0 ≤ signed false m up := by unfold signed; rw [if_neg (by decide)]; exact Int.natCast_nonneg _
theorem word_geZ (b : Bool) : geZ (double.word b 0) := by
  cases b
  · unfold geZ; decide +kernel
  · unfold geZ; decide +kernel
theorem read_zero : double.read 0 = .number false 0 double.leastPlace := by decide +kernel
/-- A word below the sign's weight is not below nought. -/
theorem geZ_small {r : Nat} (h : r < double.signWeight) : geZ r := by
  intro e
  unfold Format.order at e
  have hn : (r / double.signWeight % 2 == 1) = false := by rw [Nat.div_eq_of_lt h]; rfl
  rw [read_zero] at e
  unfold Format.read at e
  simp only [hn] at e
  split at e
  · simp only [Datum.order, Option.some.injEq, Int.compare_eq_lt] at e
    have := signed_nonneg (r % double.signWeight) (double.leastPlace - min double.leastPlace double.leastPlace).toNat
    have h0 : signed false 0 (double.leastPlace - min double.leastPlace double.leastPlace).toNat = 0 := by unfold signed; simp
    omega
  · split at e
    · simp only [Datum.order, Option.some.injEq, Int.compare_eq_lt] at e
      rename_i h1 h2
      have := signed_nonneg (double.binade + r % double.signWeight % double.binade) (double.leastPlace + (r % double.signWeight / double.binade - 1 : Nat) - min (double.leastPlace + (r % double.signWeight / double.binade - 1 : Nat)) double.leastPlace).toNat
      have h0 : signed false 0 (double.leastPlace - min (double.leastPlace + (r % double.signWeight / double.binade - 1 : Nat)) double.leastPlace).toNat = 0 := by unfold signed; simp
      omega
    · split at e
      · simp [Datum.order] at e
      · simp [Datum.order] at e
theorem infRung_lt : double.infRung < double.signWeight := by decide
/-- What is written of a sum that is not below nought is not below nought. -/
theorem geZ_write {s t : Bool} {m n : Nat} {i j : Int} {d : Datum} (h : Datum.sum (.number s m i) (.number t n j) = some d) (h0 : 0 ≤ signed s m (i - min i j).toNat + signed t n (j - min i j).toNat) : geZ (double.write d) := by
  simp only [Datum.sum, Option.some.injEq] at h
  subst h
  simp only [Format.write]
  unfold Format.nearest
  by_cases hz : signed s m (i - min i j).toNat + signed t n (j - min i j).toNat = 0
  · rw [if_pos (by rw [hz]; rfl)]
    exact word_geZ _
  · rw [if_neg (by omega), if_neg hz, decide_eq_false (by omega)]
    unfold Format.word
    simp only [Bool.false_eq_true, if_false]
    exact geZ_small (Nat.lt_of_le_of_lt (Nat.min_le_right _ _) infRung_lt)
/-- A finite word is a number. -/
theorem read_numW {a : Nat} (h : a / 4503599627370496 % 2048 ≠ 2047) : ∃ s m i, double.read a = .number s m i := by
  unfold Format.read
  have e1 : double.signWeight = 9223372036854775808 := by decide
  have e2 : double.binade = 4503599627370496 := by decide
  have e3 : double.infRung = 9218868437227405312 := by decide
  simp only [e1, e2, e3]
  split
  · exact ⟨_, _, _, rfl⟩
  · split
    · exact ⟨_, _, _, rfl⟩
    · rename_i h1 h2
      exfalso
      omega
theorem geZ_odd : geZ 9221120237041090561 := by
  unfold geZ
  decide +kernel
theorem geZ_canon {r : Nat} (h : geZ r) : geZ (canonI (r : Int)).toNat := by
  unfold canonI
  split
  · exact geZ_odd
  · exact h
theorem fin_nat {a : Int} (h : finI a = true) (_ : 0 ≤ a) : a.toNat / 4503599627370496 % 2048 ≠ 2047 := by
  unfold finI at h
  simp only [decide_eq_true_eq] at h
  omega
theorem floatBits_sub (x y : Nat) : floatBits .sub .f64 x y = double.sub x y := rfl
/-- The difference of two finite floats of which the first isn't below the second isn't below nought. -/
theorem sub_geZ {a b : Int} (ha : 0 ≤ a) (hb : 0 ≤ b) (fa : finI a = true) (fb : finI b = true) (hl : lessI a b = false) : lessI (subI a b) 0 = false := by
  rw [lessI_zero]
  obtain ⟨s, m, i, e1⟩ := read_numW (fin_nat fa ha)
  obtain ⟨t, n, j, e2⟩ := read_numW (fin_nat fb hb)
  unfold subI
  rw [floatBits_sub]
  unfold Format.sub
  rw [e1, e2]
  have hl' : ¬ signed s m (i - min i j).toNat < signed t n (j - min i j).toNat := by
    intro hc
    unfold lessI Format.order at hl
    rw [e1, e2] at hl
    simp only [Datum.order] at hl
    rw [beq_eq_false_iff_ne] at hl
    exact hl (congrArg some (Int.compare_eq_lt.2 hc))
  have hneg : signed (!t) n (j - min i j).toNat = - signed t n (j - min i j).toNat := by
    unfold signed
    cases t <;> simp
  simp only [Datum.opposite]
  cases hs : Datum.sum (.number s m i) (.number (!t) n j) with
  | none => exact geZ_odd
  | some d => exact geZ_canon (geZ_write hs (by omega))
end Go.Proofs.Ytiiibhdohlpodaa

namespace Go.Proofs.Ytiiibhdohlpodaa
open Go.RowKit
theorem chk_own {x : Pnt} (h : chk x = 0) : ownB x = true := by
  have h4 := (chk_parts h).2.2.2.1
  cases e : ownB x with
  | true => rfl
  | false => exact absurd (Or.inl e) h4
theorem chk_times {x : Pnt} (h : chk x = 0) (hk : x.kind ≠ 3) : 0 ≤ x.start ∧ x.start < x.time ∧ x.time ≤ 4503599627370496 := by
  have h3 := (chk_parts h).2.2.1
  have ht : timesB x = true := by
    cases e' : timesB x with
    | true => rfl
    | false => exact absurd (Or.inr e') h3
  unfold timesB at ht
  simp only [decide_eq_true_eq] at ht
  rw [if_neg hk] at ht
  exact ⟨ht.1.1, ht.2, ht.1.2⟩
theorem chk_mono {x : Pnt} (h : chk x = 0) (hm : x.mono = true) : (x.kind = 1 ∨ x.kind = 2) ∧ finI x.re = true ∧ 0 ≤ x.whole ∧ lessI x.re 0 = false := by
  obtain ⟨_, _, h3, _, h5, h6, _⟩ := chk_parts h
  refine ⟨?_, ?_, ?_, ?_⟩
  · have : sumB x = true := by
      cases e : sumB x with
      | true => rfl
      | false => exact absurd (Or.inl ⟨hm, e⟩) h3
    unfold sumB at this
    simpa using this
  · cases e : finI x.re with
    | true => rfl
    | false => exact absurd ⟨hm, e⟩ h5
  · by_cases hc : x.whole < 0
    · exact absurd ⟨hm, Or.inl hc⟩ h6
    · omega
  · cases e : lessI x.re 0 with
    | false => rfl
    | true => exact absurd ⟨hm, Or.inr e⟩ h6
/-- A point that differs from a right one in its temporality, start, value and flags alone. -/
theorem chk_to {x y : Pnt} (h : chk x = 0) (e1 : y.name = x.name) (e2 : y.L = x.L) (e3 : y.kind = x.kind) (hk : x.kind = 1 ∨ x.kind = 2 ∨ x.kind = 4 ∨ x.kind = 5) (e4 : y.mono = x.mono) (e5 : y.time = x.time)
    (ht : y.temp = 1 ∨ y.temp = 2) (hs : 0 ≤ y.start ∧ y.start < x.time) (ho : ownB y = true) (hf : 0 ≤ y.flags ∧ y.flags ≤ 31) (hm : x.mono = true → finI y.re = true ∧ 0 ≤ y.whole ∧ lessI y.re 0 = false) (he : y.h.err = 0) : chk y = 0 := by
  obtain ⟨h1, h2, h3, h4, h5, h6, h7⟩ := chk_parts h
  have hti := chk_times h (by omega)
  refine chk_of (by rw [e1, e2]; exact h1) ?_ ?_ ?_ ?_ ?_ he
  · unfold kindB
    simp only [decide_eq_true_eq]
    exact Or.inr ⟨by rw [e3]; exact hk, ht⟩
  · rintro (⟨a, b⟩ | b)
    · have hmx := e4 ▸ a
      have := (chk_mono h hmx).1
      unfold sumB at b
      simp only [decide_eq_false_iff_not] at b
      exact b (by rw [e3]; exact this)
    · unfold timesB at b
      simp only [decide_eq_false_iff_not] at b
      apply b
      rw [if_neg (by omega), e5]
      exact ⟨⟨hs.1, hti.2.2⟩, hs.2⟩
  · rintro (a | a | a)
    · rw [ho] at a; cases a
    · omega
    · omega
  · rintro ⟨a, b⟩
    rw [(hm (e4 ▸ a)).1] at b; cases b
  · rintro ⟨a, b⟩
    obtain ⟨_, c1, c2⟩ := hm (e4 ▸ a)
    rcases b with b | b
    · omega
    · rw [c2] at b; cases b
theorem own_iff (x : Pnt) : ownB x = true ↔ ((x.kind = 1 ∨ x.whole = 0) ∧ (x.kind = 2 ∨ x.kind = 3 ∨ x.kind = 5 ∨ x.re = 0) ∧ (x.kind = 5 ∨ x.im = 0) ∧ (x.kind = 4 ∨ ((x.h.sc = 0 ∧ x.h.ze = 0) ∧ (x.h.po = 0 ∧ x.h.no = 0) ∧ (x.h.pl.length = 0 ∧ x.h.nl.length = 0)))) := by
  unfold ownB; rw [decide_eq_true_eq]
/-- What holds of a point that was taken, beside the one that came. -/
structure TakenR (x f : Pnt) : Prop where
  name : f.name = x.name
  L : f.L = x.L
  kind : f.kind = x.kind
  temp : f.temp = x.temp
  mono : f.mono = x.mono
  start : f.start = x.start
  time : f.time = x.time
  whole : f.whole = x.whole
  re : f.re = x.re
  im : f.im = x.im
  flags : f.flags = 0
  own : ownB f = true
  err : f.h.err = 0
  ok : f.ok
  ck : chk x = 0
  kd : x.kind = 1 ∨ x.kind = 2 ∨ x.kind = 4 ∨ x.kind = 5
  tp : x.temp = 1 ∨ x.temp = 2
theorem takenF_taken {x : Pnt} {t most : Int} (hok : x.ok) (hli : x.light) (h : (takenF x t most).2 = 0) (ht : t = 1 ∨ t = 2 := by decide) : TakenR x (takenF x t most).1 := by
  have hf := takenF_right hok hli h ht
  obtain ⟨h1, hc⟩ := takenF_zero h
  obtain ⟨hk, htp, hfl⟩ := takenE_zero h1
  have ho := chk_own hk
  have h7 := (chk_parts hk).2.2.2.2.2.2
  have hkd : x.kind = 1 ∨ x.kind = 2 ∨ x.kind = 4 ∨ x.kind = 5 := by
    have := hf.kd
    rcases hc with ⟨_, _, e⟩ | ⟨_, e⟩
    · rw [e] at this; exact this
    · rw [e] at this; exact this
  rcases hc with ⟨k4, f0, e⟩ | ⟨k4, e⟩
  · obtain ⟨he, b, hb, e2, er, eo, ef⟩ := fitG_right hok.h f0
    rw [e]
    refine ⟨rfl, rfl, rfl, rfl, rfl, rfl, rfl, rfl, rfl, rfl, hfl, ?_, er, ⟨hok.kind, hok.temp, hok.start, hok.time, hok.whole, hok.re, hok.im, eo, hok.flags⟩, hk, hkd, by omega⟩
    rw [own_iff] at ho ⊢
    exact ⟨ho.1, ho.2.1, ho.2.2.1, Or.inl k4⟩
  · rw [e]
    exact ⟨rfl, rfl, rfl, rfl, rfl, rfl, rfl, rfl, rfl, rfl, hfl, ho, h7, hok, hk, hkd, by omega⟩
theorem TakenR.ti {x f : Pnt} (h : TakenR x f) : 0 ≤ x.start ∧ x.start < x.time := by
  have := chk_times h.ck (by have := h.kd; omega)
  exact ⟨this.1, this.2.1⟩
/-- A point that was taken, with another temporality and flags, is right. -/
theorem TakenR.flagged {x f : Pnt} (h : TakenR x f) (t c : Int) (ht : t = 1 ∨ t = 2) (hc : 0 ≤ c ∧ c ≤ 31) (a : Int) (ha : 0 ≤ a ∧ a < x.time) : chk { f with temp := t, flags := c, start := a } = 0 ∧ ({ f with temp := t, flags := c, start := a } : Pnt).ok := by
  have hti := chk_times h.ck (by have := h.kd; omega)
  refine ⟨chk_to h.ck h.name h.L h.kind h.kd h.mono h.time ht ha ?_ hc ?_ h.err, ⟨h.ok.kind, by unfold I64; dsimp only; omega, by unfold I64; dsimp only; omega, h.ok.time, h.ok.whole, h.ok.re, h.ok.im, h.ok.h, by unfold I64; dsimp only; omega⟩⟩
  · have := h.own
    rw [own_iff] at this ⊢
    exact this
  · intro hm
    obtain ⟨_, c1, c2, c3⟩ := chk_mono h.ck hm
    exact ⟨by rw [show ({ f with temp := t, flags := c, start := a } : Pnt).re = x.re from h.re]; exact c1, by rw [show ({ f with temp := t, flags := c, start := a } : Pnt).whole = x.whole from h.whole]; exact c2, by rw [show ({ f with temp := t, flags := c, start := a } : Pnt).re = x.re from h.re]; exact c3⟩
end Go.Proofs.Ytiiibhdohlpodaa

namespace Go.Proofs.Ytiiibhdohlpodaa
open Go.RowKit
/-- A side without empty buckets at its ends. -/
def trimA (l : List Nat) : Nat := l.findIdx (fun x => x != 0)
def trimC (l : List Nat) : Nat := l.reverse.findIdx (fun x => x != 0)
def trimF (o : Int) (l : List Nat) : Int × List Nat := if trimA l < l.length then (o + (trimA l : Int), (l.drop (trimA l)).take (l.length - trimC l - trimA l)) else (0, [])
theorem trimF_of (o : Int) (l : List Nat) : TrimOf o l (trimF o l).1 (trimF o l).2 := by
  unfold trimF
  have getE : ∀ j (h : j < l.length), l.getD j 0 = l[j] := fun j h => by rw [List.getD_eq_getElem?_getD, List.getElem?_eq_getElem h]; rfl
  by_cases ha : trimA l < l.length
  · rw [if_pos ha]
    have h1 : (l[trimA l] != 0) = true := List.findIdx_getElem (w := ha)
    have h2 : ∀ j, j < trimA l → l.getD j 0 = 0 := fun j hj => by
      have := List.not_of_lt_findIdx (p := fun x => x != 0) (xs := l) hj
      rw [getE j (by omega)]
      simpa using this
    have hc : trimC l < l.reverse.length := by
      rw [trimC, List.findIdx_lt_length]
      exact ⟨l[trimA l], List.mem_reverse.2 (List.getElem_mem _), h1⟩
    have hc' : trimC l < l.length := by rw [List.length_reverse] at hc; exact hc
    have h3 : (l.reverse[trimC l] != 0) = true := List.findIdx_getElem (w := hc)
    rw [List.getElem_reverse] at h3
    have h4 : ∀ j, l.length - trimC l ≤ j → j < l.length → l.getD j 0 = 0 := fun j h5 h6 => by
      have := List.not_of_lt_findIdx (p := fun x => x != 0) (xs := l.reverse) (i := l.length - 1 - j) (by show l.length - 1 - j < trimC l; omega)
      rw [List.getElem_reverse] at this
      rw [getE j h6]
      have e : l.length - 1 - (l.length - 1 - j) = j := by omega
      simp only [e] at this
      simpa using this
    have hab : trimA l < l.length - trimC l := by
      by_cases hh : trimA l < l.length - trimC l
      · exact hh
      · have := h4 (trimA l) (by omega) ha
        rw [getE _ ha] at this
        rw [this] at h1
        exact absurd h1 (by decide)
    refine .inr ⟨trimA l, l.length - trimC l, hab, by omega, h2, h4, ?_, ?_, rfl, rfl⟩
    · rw [getE _ ha]; simpa using h1
    · rw [getE _ (by omega)]
      have e : l.length - 1 - trimC l = l.length - trimC l - 1 := by omega
      simp only [e] at h3
      simpa using h3
  · rw [if_neg ha]
    refine .inl ⟨fun j hj => ?_, rfl, rfl⟩
    have := List.not_of_lt_findIdx (p := fun x => x != 0) (xs := l) (i := j) (by show j < trimA l; omega)
    rw [getE j hj]
    simpa using this
def hasQ (o1 : Int) (l1 : List Nat) (o2 : Int) (l2 : List Nat) : Bool := (List.range l2.length).all fun i => decide (l2.getD i 0 ≤ atN o1 l1 (o2 + (i : Int)))
theorem hasQ_iff (o1 : Int) (l1 : List Nat) (o2 : Int) (l2 : List Nat) : hasQ o1 l1 o2 l2 = true ↔ hasS o1 l1 o2 l2 := by
  unfold hasQ hasS
  rw [List.all_eq_true]
  constructor
  · intro h i hi
    simpa using h i (List.mem_range.2 hi)
  · intro h i hi
    simpa using h i (List.mem_range.1 hi)
/-- A histogram taken from another one. -/
def subG (a b : HistV) : HistV × Nat := if levE a b ≠ 0 then (zeroH, levE a b) else
  if hasQ (levX a b).po (levX a b).pl (levY a b).po (levY a b).pl = true ∧ hasQ (levX a b).no (levX a b).nl (levY a b).no (levY a b).nl = true ∧ (levY a b).ze ≤ (levX a b).ze then
    (⟨(levX a b).sc, (levX a b).ze - (levY a b).ze, (trimF (levX a b).po (lsL (levX a b).po (levX a b).pl (levY a b).po (levY a b).pl)).1, (trimF (levX a b).po (lsL (levX a b).po (levX a b).pl (levY a b).po (levY a b).pl)).2, (trimF (levX a b).no (lsL (levX a b).no (levX a b).nl (levY a b).no (levY a b).nl)).1, (trimF (levX a b).no (lsL (levX a b).no (levX a b).nl (levY a b).no (levY a b).nl)).2⟩, 0)
  else (zeroH, 7)
theorem subRes_of (o1 : Int) (l1 : List Nat) (o2 : Int) (l2 : List Nat) : ∃ k o l, SubRes o1 l1 o2 l2 k o l ∧ k = hasQ o1 l1 o2 l2 ∧ (k = true → o = (trimF o1 (lsL o1 l1 o2 l2)).1 ∧ l = (trimF o1 (lsL o1 l1 o2 l2)).2) := by
  by_cases h : hasQ o1 l1 o2 l2 = true
  · exact ⟨true, _, _, .inl ⟨rfl, (hasQ_iff _ _ _ _).1 h, trimF_of _ _⟩, h.symm, fun _ => ⟨rfl, rfl⟩⟩
  · exact ⟨false, 0, [], .inr ⟨rfl, fun c => h ((hasQ_iff _ _ _ _).2 c), rfl, rfl⟩, by simpa using h, fun e => by cases e⟩
theorem subG_of (a b : HistV) : SubH a b (subG a b).1 (subG a b).2 := by
  unfold subG
  by_cases hl : levE a b = 0
  · rw [if_neg (by omega)]
    obtain ⟨k1, o1, l1, r1, e1, t1⟩ := subRes_of (levX a b).po (levX a b).pl (levY a b).po (levY a b).pl
    obtain ⟨k2, o2, l2, r2, e2, t2⟩ := subRes_of (levX a b).no (levX a b).nl (levY a b).no (levY a b).nl
    refine .inr ⟨hl, k1, o1, l1, k2, o2, l2, r1, r2, ?_⟩
    rw [← e1, ← e2]
    by_cases hc : k1 = true ∧ k2 = true ∧ (levY a b).ze ≤ (levX a b).ze
    · rw [if_pos hc]
      obtain ⟨u1, u2⟩ := t1 hc.1
      obtain ⟨v1, v2⟩ := t2 hc.2.1
      exact .inl ⟨hc.1, hc.2.1, hc.2.2, rfl, by rw [u1, u2, v1, v2]⟩
    · rw [if_neg hc]
      refine .inr ⟨?_, rfl, rfl⟩
      cases k1 with
      | false => exact .inl rfl
      | true =>
        cases k2 with
        | false => exact .inr (.inl rfl)
        | true => exact .inr (.inr (by have : ¬ (levY a b).ze ≤ (levX a b).ze := fun c => hc ⟨rfl, rfl, c⟩; omega))
  · rw [if_pos hl]
    exact .inl ⟨hl, rfl, rfl⟩
/-- A float, or a phasor, less a state's. -/
def lessF (s : StV) (x : Pnt) : Pnt :=
  if x.mono = true ∧ lessI x.re s.re = true then { x with flags := 4 } else
  if fin4 x.re x.im s.re s.im = true ∧ (finI (subI x.re s.re) && finI (subI x.im s.im)) = false then { x with flags := 16 } else { x with re := subI x.re s.re, im := subI x.im s.im }
/-- A point less a state's value; the histogram of the state behind it. -/
def lessA (s : StV) (x : Pnt) : Pnt :=
  if x.kind = 1 then lessW s x else
  if x.kind = 4 then (if (subG x.h s.h).2 = 0 then { x with h := (subG x.h s.h).1 } else { x with flags := 4 }) else lessF s x
def lessH (s : StV) (x : Pnt) : HistV := if x.kind = 4 ∧ (subG x.h s.h).2 = 0 then levX x.h s.h else x.h
def outD (s : StV) (x : Pnt) : Pnt :=
  if movedI s x = 0 then lessA s { x with temp := 2, flags := 0, start := s.time } else { x with temp := 2, flags := movedI s x }
def stD (s : StV) (x : Pnt) : StV := ⟨true, x.start, x.time, x.whole, x.re, x.im, if movedI s x = 0 then lessH s x else x.h⟩
def stepD (s : StV) (x : Pnt) (most : Int) : Int := if (takenF x 1 most).2 ≠ 0 then ((takenF x 1 most).2 : Int) else if s.some = true then lateI s (takenF x 1 most).1 else 0
def nextDP (s : StV) (x : Pnt) (most : Int) : Pnt := if stepD s x most = 0 then outD s (takenF x 1 most).1 else zeroPt
def nextDS (s : StV) (x : Pnt) (most : Int) : StV := if stepD s x most = 0 then stD s (takenF x 1 most).1 else zeroSt
def playD (most : Int) : StV → List Pnt → List (Pnt × Pnt)
  | _, [] => []
  | s, x :: l => if stepD s x most = 0 then (x, nextDP s x most) :: playD most (nextDS s x most) l else playD most s l
def stDD (most : Int) : StV → List Pnt → StV
  | s, [] => s
  | s, x :: l => if stepD s x most = 0 then stDD most (nextDS s x most) l else stDD most s l
theorem playD_snoc (most : Int) (l : List Pnt) : ∀ (s : StV) (x : Pnt), playD most s (l ++ [x]) = playD most s l ++ (if stepD (stDD most s l) x most = 0 then [(x, nextDP (stDD most s l) x most)] else []) ∧ stDD most s (l ++ [x]) = if stepD (stDD most s l) x most = 0 then nextDS (stDD most s l) x most else stDD most s l := by
  induction l with
  | nil => intro s x; by_cases h : stepD s x most = 0 <;> simp [playD, stDD, h]
  | cons y l ih =>
    intro s x
    rw [List.cons_append, playD, playD, stDD, stDD]
    by_cases h : stepD s y most = 0
    · simp only [if_pos h, List.cons_append]
      exact ⟨by rw [(ih (nextDS s y most) x).1], (ih (nextDS s y most) x).2⟩
    · simp only [if_neg h]
      exact ih s x
theorem playD_len (most : Int) (l : List Pnt) : ∀ s : StV, (playD most s l).length ≤ l.length := by
  induction l with
  | nil => intro s; exact Nat.le_refl _
  | cons y l ih =>
    intro s
    rw [playD]
    split
    · have := ih (nextDS s y most); rw [List.length_cons, List.length_cons]; omega
    · have := ih s; rw [List.length_cons]; omega
end Go.Proofs.Ytiiibhdohlpodaa

namespace Go.Proofs.Ytiiibhdohlpodaa
open Go.RowKit
theorem lessA_fine {s : StV} {f : Pnt} (hs : SFine s) (hf : Fine f) : (lessH s f).ok ∧ (lessH s f).pl.length ≤ 1000000 ∧ (lessH s f).nl.length ≤ 1000000 := by
  unfold lessH
  split
  · rename_i h
    have hl : levE f.h s.h = 0 := by
      rcases subG_of f.h s.h with ⟨a, b, _⟩ | ⟨a, _⟩
      · omega
      · exact a
    obtain ⟨r1, r2, r3, r4, r5, r6, r7, r8⟩ := lev_right hl hf.h hs.h
    have := few_err r3
    exact ⟨r5, this.1, this.2⟩
  · exact ⟨hf.h, hf.lp, hf.ln⟩
theorem stepD_zero {s : StV} {x : Pnt} {most : Int} (h : stepD s x most = 0) : (takenF x 1 most).2 = 0 ∧ (s.some = true → lateI s (takenF x 1 most).1 = 0) := by
  unfold stepD at h
  by_cases h1 : (takenF x 1 most).2 = 0
  · rw [if_neg (by omega)] at h
    refine ⟨h1, fun hs => ?_⟩
    rw [if_pos hs] at h
    exact h
  · rw [if_pos h1] at h
    omega
theorem nextDS_fine {s : StV} {x : Pnt} {most : Int} (hs : SFine s) (hok : x.ok) (hli : x.light) (h0 : stepD s x most = 0) : SFine (nextDS s x most) := by
  have hf := takenF_right hok hli (stepD_zero h0).1
  unfold nextDS
  rw [if_pos h0]
  obtain ⟨l1, l2, l3⟩ := lessA_fine hs hf
  unfold stD
  by_cases hm : movedI s (takenF x 1 most).1 = 0
  · refine ⟨?_, ?_, ?_, hf.re, hf.im⟩
    · show HistV.ok (if movedI s (takenF x 1 most).1 = 0 then _ else _); rw [if_pos hm]; exact l1
    · show List.length (HistV.pl (if movedI s (takenF x 1 most).1 = 0 then _ else _)) ≤ _; rw [if_pos hm]; exact l2
    · show List.length (HistV.nl (if movedI s (takenF x 1 most).1 = 0 then _ else _)) ≤ _; rw [if_pos hm]; exact l3
  · refine ⟨?_, ?_, ?_, hf.re, hf.im⟩
    · show HistV.ok (if movedI s (takenF x 1 most).1 = 0 then _ else _); rw [if_neg hm]; exact hf.h
    · show List.length (HistV.pl (if movedI s (takenF x 1 most).1 = 0 then _ else _)) ≤ _; rw [if_neg hm]; exact hf.lp
    · show List.length (HistV.nl (if movedI s (takenF x 1 most).1 = 0 then _ else _)) ≤ _; rw [if_neg hm]; exact hf.ln
theorem stDD_fine {most : Int} (l : List Pnt) : ∀ s : StV, SFine s → (∀ x ∈ l, x.ok ∧ x.light) → SFine (stDD most s l) := by
  induction l with
  | nil => intro s hs _; exact hs
  | cons x l ih =>
    intro s hs hl
    rw [stDD]
    have hx := hl x List.mem_cons_self
    split
    · rename_i h0
      exact ih _ (nextDS_fine hs hx.1 hx.2 h0) (fun y hy => hl y (List.mem_cons_of_mem _ hy))
    · exact ih _ hs (fun y hy => hl y (List.mem_cons_of_mem _ hy))
end Go.Proofs.Ytiiibhdohlpodaa

