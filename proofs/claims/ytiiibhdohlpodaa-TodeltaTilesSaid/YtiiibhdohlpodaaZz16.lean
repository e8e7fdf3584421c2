/- Texts put together: what the theorem stands on. -/
import Derived.Test.YtiiibhdohlpodaaZz11
import Derived.Test.YtiiibhdohlpodaaZz15

namespace Go.Proofs.Ytiiibhdohlpodaa
open Go.RowKit
/-- What is told of a point that was made. -/
structure OutD (s : StV) (x y : Pnt) : Prop where
  name : y.name = x.name
  L : y.L = x.L
  ck : chk y = 0
  ok : y.ok
  kind : y.kind = x.kind
  temp : y.temp = 2
  time : y.time = x.time
  first : y.flags = 1 ↔ s.some = false
  start0 : s.some = false → y.start = x.start
  moved : s.some = true → ((y.flags = 2 ∨ y.flags = 10) ↔ s.start < x.start)
  gap : s.some = true → (y.flags = 10 ↔ s.time < x.start)
  own : s.some = true → s.start < x.start → y.start = x.start
  goes : s.some = true → ¬ s.start < x.start → y.start = s.time
  late : s.some = true → s.time ≤ y.start
theorem trim_err {o : Int} {l : List Nat} {o' : Int} {l' : List Nat} (h : TrimOf o l o' l') (ho : -1073741824 ≤ o ∧ o + (l.length : Int) ≤ 1073741825) (hl : l.length ≤ 160) : sideE o' l' = 0 := by
  rcases h with ⟨_, rfl, rfl⟩ | ⟨a, b, hab, hb, _, _, hna, hnb, rfl, rfl⟩
  · rfl
  · have hlen : ((l.drop a).take (b - a)).length = b - a := by rw [List.length_take, List.length_drop]; omega
    have h0 : ((l.drop a).take (b - a)).getD 0 0 = l.getD a 0 := by
      rw [List.getD_eq_getElem?_getD, List.getD_eq_getElem?_getD, List.getElem?_take, if_pos (by omega), List.getElem?_drop, Nat.add_zero]
    have h1 : ((l.drop a).take (b - a)).getD (b - a - 1) 0 = l.getD (b - 1) 0 := by
      rw [List.getD_eq_getElem?_getD, List.getD_eq_getElem?_getD, List.getElem?_take, if_pos (by omega), List.getElem?_drop]
      congr 2; omega
    unfold sideE
    rw [hlen, if_neg (by omega), if_neg (by omega), h0, h1, if_neg (by omega), if_neg (by omega)]
theorem list_sum_le (l m : List Nat) (hl : l.length = m.length) (h : ∀ j, j < l.length → l.getD j 0 ≤ m.getD j 0) : l.sum ≤ m.sum := by
  induction l generalizing m with
  | nil => exact Nat.zero_le _
  | cons x l ih =>
    cases m with
    | nil => simp at hl
    | cons y m =>
      have h0 := h 0 (by simp)
      have ht := ih m (by simpa using hl) (fun j hj => by have := h (j + 1) (by simpa using hj); simpa using this)
      simp only [List.getD_cons_zero] at h0
      simp only [List.sum_cons]
      omega
theorem trim_sum {o : Int} {l : List Nat} {o' : Int} {l' : List Nat} (h : TrimOf o l o' l') : l'.sum ≤ l.sum := by
  rcases h with ⟨_, rfl, rfl⟩ | ⟨a, b, _, _, _, _, _, _, rfl, rfl⟩
  · exact Nat.zero_le _
  · have h1 := sum_take_le (l.drop a) (b - a)
    have h2 : l.sum = (l.take a).sum + (l.drop a).sum := by rw [← List.sum_append, List.take_append_drop]
    omega
theorem lsL_sum (o1 : Int) (l1 : List Nat) (o2 : Int) (l2 : List Nat) : (lsL o1 l1 o2 l2).sum ≤ l1.sum := by
  refine list_sum_le _ _ (by unfold lsL; rw [rowF_length]) (fun j hj => ?_)
  unfold lsL at hj ⊢
  rw [rowF_length] at hj
  rw [rowF_get _ _ _ _ hj]
  have : atN o1 l1 (o1 + (j : Int)) = l1.getD j 0 := by
    unfold atN
    rw [if_pos (by omega)]
    congr 1; omega
  omega
theorem side_room {o : Int} {l : List Nat} (h : sideE o l = 0) : (-1073741824 ≤ o ∧ o + (l.length : Int) ≤ 1073741825) ∧ l.length ≤ 160 := by
  obtain ⟨h1, h2, h3⟩ := sideE_zero h
  by_cases hz : l.length = 0
  · have := h2 hz; omega
  · have := (h3 hz).2.2; omega
/-- What is left of a histogram is right. -/
theorem subG_right {a b : HistV} (oka : a.ok) (okb : b.ok) (h : (subG a b).2 = 0) : (subG a b).1.err = 0 ∧ (subG a b).1.ok := by
  have hl : levE a b = 0 := by
    rcases subG_of a b with ⟨x, y, _⟩ | ⟨x, _⟩
    · omega
    · exact x
  obtain ⟨_, _, r3, r4, r5, r6, _, _⟩ := lev_right hl oka okb
  have hx := err_light r3
  unfold subG at h ⊢
  rw [if_neg (by omega)] at h ⊢
  split at h
  · rename_i hc
    rw [if_pos hc]
    obtain ⟨X, hX⟩ : ∃ X, X = levX a b := ⟨_, rfl⟩
    obtain ⟨Y, hY⟩ : ∃ Y, Y = levY a b := ⟨_, rfl⟩
    rw [← hX] at r3 r5 hx
    rw [← hX, ← hY]
    clear h hc hl hX hY
    have tp := trimF_of X.po (lsL X.po X.pl Y.po Y.pl)
    have tn := trimF_of X.no (lsL X.no X.nl Y.no Y.nl)
    have lp : (lsL X.po X.pl Y.po Y.pl).length = X.pl.length := by unfold lsL; rw [rowF_length]
    have ln : (lsL X.no X.nl Y.no Y.nl).length = X.nl.length := by unfold lsL; rw [rowF_length]
    have sp := side_room hx.2.1
    have sn := side_room hx.2.2.1
    have ep := trim_err tp (by rw [lp]; exact sp.1) (by rw [lp]; exact sp.2)
    have en := trim_err tn (by rw [ln]; exact sn.1) (by rw [ln]; exact sn.2)
    have up := trim_sum tp
    have un := trim_sum tn
    have vp := lsL_sum X.po X.pl Y.po Y.pl
    have vn := lsL_sum X.no X.nl Y.no Y.nl
    have ht := hx.2.2.2
    generalize (trimF X.po (lsL X.po X.pl Y.po Y.pl)).1 = po at *
    generalize (trimF X.po (lsL X.po X.pl Y.po Y.pl)).2 = pl at *
    generalize (trimF X.no (lsL X.no X.nl Y.no Y.nl)).1 = no at *
    generalize (trimF X.no (lsL X.no X.nl Y.no Y.nl)).2 = nl at *
    have htot : X.ze + X.pl.sum + X.nl.sum < 18446744073709551616 := by
      unfold HistV.total sumN at ht
      exact ht
    have bp := side_room ep
    have bn := side_room en
    refine ⟨?_, ⟨?_, ?_, ?_, ?_, ?_, ?_⟩⟩
    · unfold HistV.err
      dsimp only
      rw [if_neg (by omega), ep, en, if_neg (by omega), if_neg (by omega), if_neg]
      unfold HistV.total sumN
      dsimp only
      omega
    · dsimp only; omega
    · dsimp only; omega
    · dsimp only; omega
    · intro x hx'; have := mem_sum hx'; dsimp only at *; omega
    · dsimp only; omega
    · intro x hx'; have := mem_sum hx'; dsimp only at *; omega
  · exact absurd h (by decide)
/-- A state that was left by a right point of that kind, or none. -/
def StD (k : Int) (m : Bool) (s : StV) : Prop := s.some = true → ∃ (z : Pnt) (H : HistV), s = stH z H ∧ chk z = 0 ∧ z.kind = k ∧ z.mono = m ∧ z.ok ∧ H.ok
theorem subI_zero : subI 0 0 = 0 := by decide +kernel
theorem nextD_right {s : StV} {x : Pnt} {most : Int} (hs : StD x.kind x.mono s) (hx : x.ok) (hli : x.light) (h0 : stepD s x most = 0) : OutD s x (nextDP s x most) ∧ StD x.kind x.mono (nextDS s x most) ∧ (nextDS s x most).start = x.start ∧ (nextDS s x most).time = x.time ∧ (nextDS s x most).some = true := by
  obtain ⟨ht, hl⟩ := stepD_zero h0
  have hf := takenF_taken hx hli ht
  have hfine := takenF_right hx hli ht
  unfold nextDP nextDS
  rw [if_pos h0, if_pos h0]
  obtain ⟨f, hff⟩ : ∃ f, f = (takenF x 1 most).1 := ⟨_, rfl⟩
  rw [← hff] at hf hl hfine ⊢
  clear hff
  have hti := hf.ti
  have hst2 : ∀ H : HistV, stH f H = stH x H := fun H => by unfold stH; rw [hf.start, hf.time, hf.whole, hf.re, hf.im]
  have hafter : ∀ H : HistV, H.ok → StD x.kind x.mono (stH f H) := fun H ho _ => ⟨x, H, hst2 H, hf.ck, rfl, rfl, hx, ho⟩
  have hmain : (if movedI s f = 0 then lessH s f else f.h).ok := by
    by_cases hm : movedI s f = 0
    · rw [if_pos hm]
      have hsm : s.some = true := by
        unfold movedI at hm
        by_cases e : s.some = false
        · rw [if_pos e] at hm; omega
        · simpa using e
      obtain ⟨z, H, rfl, zc, zk, zm, zo, Ho⟩ := hs hsm
      unfold lessH
      split
      · rename_i h
        have hlv : levE f.h (stH z H).h = 0 := by
          rcases subG_of f.h (stH z H).h with ⟨a, b, _⟩ | ⟨a, _⟩
          · omega
          · exact a
        exact (lev_right hlv hf.ok.h Ho).2.2.2.2.1
      · exact hf.ok.h
    · rw [if_neg hm]; exact hf.ok.h
  refine ⟨?_, by rw [stD_eq]; exact hafter _ hmain, by show f.start = x.start; exact hf.start, by show f.time = x.time; exact hf.time, rfl⟩
  unfold outD
  -- flagged by its start
  by_cases hsm : s.some = false
  · have hm : movedI s f = 1 := by unfold movedI; rw [if_pos hsm]
    rw [hm, if_neg (by decide)]
    obtain ⟨h1, h2⟩ := hf.flagged 2 1 (Or.inr rfl) ⟨by omega, by omega⟩ f.start (by rw [hf.start]; exact hti)
    have hno : ¬ s.some = true := by rw [hsm]; decide
    exact ⟨hf.name, hf.L, h1, h2, hf.kind, rfl, hf.time, ⟨fun _ => hsm, fun _ => rfl⟩, fun _ => hf.start, fun e => absurd e hno, fun e => absurd e hno, fun e => absurd e hno, fun e => absurd e hno, fun e => absurd e hno⟩
  have hst : s.some = true := by simpa using hsm
  have hl' := hl hst
  unfold lateI at hl'
  rw [hf.time, hf.start] at hl'
  have l1 : s.time < x.time := by
    split at hl'
    · omega
    · omega
  have l2 : ¬ x.start < s.start ∧ ¬ (s.start < x.start ∧ x.start < s.time) := by
    rw [if_neg (by omega)] at hl'
    split at hl'
    · omega
    · rename_i h; exact ⟨fun e => h (Or.inl e), fun e => h (Or.inr e)⟩
  clear hl' hl
  obtain ⟨z, H, rfl, zc, zk, zm, zo, Ho⟩ := hs hst
  have zt := chk_times zc (by have := hf.kd; omega)
  have zown := (own_iff z).1 (chk_own zc)
  have fown := (own_iff f).1 hf.own
  have l1' : z.time < x.time := l1
  have l2' : ¬ x.start < z.start ∧ ¬ (z.start < x.start ∧ x.start < z.time) := l2
  by_cases hg : z.start < x.start
  · have hm : movedI (stH z H) f = 2 ∨ movedI (stH z H) f = 10 := by
      unfold movedI
      rw [if_neg hsm, if_neg (by show ¬ f.start ≤ z.start; rw [hf.start]; omega)]
      split
      · exact .inl rfl
      · exact .inr rfl
    have hm10 : movedI (stH z H) f = 10 ↔ z.time < x.start := by
      unfold movedI
      rw [if_neg hsm, if_neg (by show ¬ f.start ≤ z.start; rw [hf.start]; omega)]
      by_cases hc : f.start ≤ (stH z H).time
      · rw [if_pos hc]
        have hc' : f.start ≤ z.time := hc
        rw [hf.start] at hc'
        exact ⟨fun e => by omega, fun e => by omega⟩
      · rw [if_neg hc]
        have hc' : ¬ f.start ≤ z.time := hc
        rw [hf.start] at hc'
        exact ⟨fun _ => by omega, fun _ => rfl⟩
    rw [if_neg (by omega)]
    obtain ⟨h1, h2⟩ := hf.flagged 2 (movedI (stH z H) f) (Or.inr rfl) ⟨by omega, by omega⟩ f.start (by rw [hf.start]; exact hti)
    exact ⟨hf.name, hf.L, h1, h2, hf.kind, rfl, hf.time, ⟨fun e => by have e' : movedI (stH z H) f = 1 := e; omega, fun e => absurd e hsm⟩, fun e => absurd e hsm, fun _ => ⟨fun _ => hg, fun _ => hm⟩, fun _ => hm10, fun _ _ => hf.start, fun _ e => absurd hg e, fun _ => by show z.time ≤ f.start; rw [hf.start]; omega⟩
  have hm : movedI (stH z H) f = 0 := by unfold movedI; rw [if_neg hsm, if_pos (by show f.start ≤ z.start; rw [hf.start]; omega)]
  rw [if_pos hm]
  have goon : ∀ y : Pnt, y.name = x.name → y.L = x.L → y.kind = x.kind → y.mono = x.mono → y.time = x.time → y.temp = 2 → (y.flags = 0 ∨ y.flags = 4 ∨ y.flags = 16) → y.start = z.time → ownB y = true → (x.mono = true → finI y.re = true ∧ 0 ≤ y.whole ∧ lessI y.re 0 = false) → y.h.err = 0 → y.ok → OutD (stH z H) x y := by
    intro y e1 e2 e3 e4 e5 e6 e7 e8 e9 e10 e11 e12
    have hng : ¬ (stH z H).start < x.start := hg
    exact ⟨e1, e2, chk_to hf.ck e1 e2 e3 hf.kd e4 e5 (Or.inr e6) (by rw [e8]; omega) e9 (by omega) e10 e11, e12, e3, e6, e5, ⟨fun e => by omega, fun e => absurd e hsm⟩, fun e => absurd e hsm, fun _ => ⟨fun e => by omega, fun e => absurd e hng⟩, fun _ => ⟨fun e => by omega, fun e => by have e' : z.time < x.start := e; omega⟩, fun _ e => absurd e hng, fun _ _ => e8, fun _ => by show z.time ≤ y.start; omega⟩
  have hzt : I64 z.time := zo.time
  have flag : ∀ c : Int, c = 4 ∨ c = 16 → OutD (stH z H) x { f with temp := 2, flags := c, start := z.time } := by
    intro c hc
    obtain ⟨h1, h2⟩ := hf.flagged 2 c (Or.inr rfl) ⟨by omega, by omega⟩ z.time ⟨by omega, l1'⟩
    refine goon _ hf.name hf.L hf.kind hf.mono hf.time rfl (by dsimp only; omega) rfl (chk_own h1) ?_ hf.err h2
    intro hmm
    obtain ⟨_, c1, c2, c3⟩ := chk_mono hf.ck hmm
    exact ⟨by show finI f.re = true; rw [hf.re]; exact c1, by show 0 ≤ f.whole; rw [hf.whole]; exact c2, by show lessI f.re 0 = false; rw [hf.re]; exact c3⟩
  unfold lessA
  dsimp only
  by_cases k1 : f.kind = 1
  · rw [if_pos k1]
    unfold lessW
    dsimp only
    by_cases hc : f.mono = true ∧ f.whole < (stH z H).whole
    · rw [if_pos hc]; exact flag 4 (Or.inl rfl)
    · rw [if_neg hc]
      by_cases hov : decide (IntKind.i64.wrap (f.whole - (stH z H).whole) < f.whole) ≠ decide (0 < (stH z H).whole)
      · rw [if_pos hov]; exact flag 16 (Or.inr rfl)
      · rw [if_neg hov]
        have hov' : (IntKind.i64.wrap (f.whole - z.whole) < f.whole) ↔ 0 < z.whole := by
          have : decide (IntKind.i64.wrap (f.whole - z.whole) < f.whole) = decide (0 < z.whole) := Decidable.not_not.1 hov
          simpa using this
        have hww := IntKind.wrap_i64
        have hw1 := zo.whole
        have hw2 := hf.ok.whole
        unfold I64 at hw1 hw2
        have hsum : IntKind.i64.wrap (f.whole - z.whole) = f.whole - z.whole ∧ -9223372036854775808 ≤ f.whole - z.whole ∧ f.whole - z.whole ≤ 9223372036854775807 := by
          rw [hww] at hov' ⊢
          omega
        refine goon _ hf.name hf.L hf.kind hf.mono hf.time rfl (Or.inl rfl) rfl ?_ ?_ hf.err ⟨hf.ok.kind, show I64 2 by unfold I64; omega, hzt, hf.ok.time, ?_, hf.ok.re, hf.ok.im, hf.ok.h, show I64 0 by unfold I64; omega⟩
        · rw [own_iff]
          exact ⟨Or.inl k1, fown.2.1, fown.2.2.1, fown.2.2.2⟩
        · intro hmm
          obtain ⟨_, c1, c2, c3⟩ := chk_mono hf.ck hmm
          refine ⟨by show finI f.re = true; rw [hf.re]; exact c1, ?_, by show lessI f.re 0 = false; rw [hf.re]; exact c3⟩
          show 0 ≤ IntKind.i64.wrap (f.whole - z.whole)
          rw [hsum.1]
          have : ¬ f.whole < z.whole := fun e => hc ⟨by rw [hf.mono]; exact hmm, e⟩
          omega
        · show I64 (IntKind.i64.wrap (f.whole - z.whole))
          rw [hsum.1]; unfold I64; omega
  rw [if_neg k1]
  by_cases k4 : f.kind = 4
  · rw [if_pos k4]
    by_cases hr : (subG f.h (stH z H).h).2 = 0
    · rw [if_pos hr]
      obtain ⟨g1, g2⟩ := subG_right hf.ok.h Ho hr
      refine goon _ hf.name hf.L hf.kind hf.mono hf.time rfl (Or.inl rfl) rfl ?_ ?_ g1 ⟨hf.ok.kind, show I64 2 by unfold I64; omega, hzt, hf.ok.time, hf.ok.whole, hf.ok.re, hf.ok.im, g2, show I64 0 by unfold I64; omega⟩
      · rw [own_iff]
        exact ⟨fown.1, fown.2.1, fown.2.2.1, Or.inl k4⟩
      · intro hmm
        obtain ⟨c0, _⟩ := chk_mono hf.ck hmm
        have := hf.kind
        omega
    · rw [if_neg hr]; exact flag 4 (Or.inl rfl)
  rw [if_neg k4]
  have hxk := hf.kd
  have hfk := hf.kind
  unfold lessF
  dsimp only
  by_cases hc : f.mono = true ∧ lessI f.re (stH z H).re = true
  · rw [if_pos hc]; exact flag 4 (Or.inl rfl)
  rw [if_neg hc]
  by_cases hq : fin4 f.re f.im (stH z H).re (stH z H).im = true ∧ (finI (subI f.re (stH z H).re) && finI (subI f.im (stH z H).im)) = false
  · rw [if_pos hq]; exact flag 16 (Or.inr rfl)
  rw [if_neg hq]
  refine goon _ hf.name hf.L hf.kind hf.mono hf.time rfl (Or.inl rfl) rfl ?_ ?_ hf.err ⟨hf.ok.kind, show I64 2 by unfold I64; omega, hzt, hf.ok.time, hf.ok.whole, subI_u64 _ _, subI_u64 _ _, hf.ok.h, show I64 0 by unfold I64; omega⟩
  · rw [own_iff]
    refine ⟨fown.1, by dsimp only; omega, ?_, fown.2.2.2⟩
    by_cases k5 : f.kind = 5
    · exact Or.inl k5
    · refine Or.inr ?_
      have i1 : z.im = 0 := by have := zown.2.2.1; omega
      have i2 : f.im = 0 := by have := fown.2.2.1; omega
      show subI f.im z.im = 0
      rw [i1, i2]; exact subI_zero
  · intro hmm
    obtain ⟨c0, c1, c2, c3⟩ := chk_mono hf.ck hmm
    obtain ⟨d0, d1, d2, d3⟩ := chk_mono zc (by rw [zm]; exact hmm)
    have i1 : z.im = 0 := by have := zown.2.2.1; omega
    have i2 : f.im = 0 := by have := fown.2.2.1; omega
    have fre : finI f.re = true := by rw [hf.re]; exact c1
    have hfin4 : fin4 f.re f.im z.re z.im = true := by
      unfold fin4
      rw [i1, i2, d1, fre]
      decide
    have hq' : ¬ (fin4 f.re f.im z.re z.im = true ∧ (finI (subI f.re z.re) && finI (subI f.im z.im)) = false) := hq
    have hfr : finI (subI f.re z.re) = true := by
      cases e : finI (subI f.re z.re) with
      | true => rfl
      | false => exact absurd ⟨hfin4, by rw [e]; rfl⟩ hq'
    have hlt : lessI f.re z.re = false := by
      cases e : lessI f.re z.re with
      | false => rfl
      | true => exact absurd ⟨by rw [hf.mono]; exact hmm, e⟩ hc
    refine ⟨hfr, by show 0 ≤ f.whole; rw [hf.whole]; exact c2, ?_⟩
    show lessI (subI f.re z.re) 0 = false
    exact sub_geZ hf.ok.re.1 zo.re.1 fre d1 hlt
theorem OutD.light {s : StV} {x y : Pnt} (h : OutD s x y) (hl : x.light) : y.light := by
  have he := err_light (chk_parts h.ck).2.2.2.2.2.2
  have h1 := (sideE_zero he.2.1).1
  have h2 := (sideE_zero he.2.2.1).1
  exact ⟨by rw [h.name]; exact hl.name, by rw [h.L]; exact hl.len, by rw [h.L]; exact hl.sh, by omega, by omega⟩
theorem playD_inv (Q : StV → Prop) (most : Int) (l : List Pnt) : (∀ s x, x ∈ l → Q s → stepD s x most = 0 → Q (nextDS s x most)) → ∀ (s : StV), Q s → ∀ (i : Nat) (p : Pnt × Pnt), (playD most s l)[i]? = some p →
    p.1 ∈ l ∧ ∃ s', Q s' ∧ stepD s' p.1 most = 0 ∧ p.2 = nextDP s' p.1 most ∧ (i = 0 → s' = s) ∧ (∀ j, i = j + 1 → ∃ q s0, (playD most s l)[j]? = some q ∧ q.1 ∈ l ∧ Q s0 ∧ stepD s0 q.1 most = 0 ∧ q.2 = nextDP s0 q.1 most ∧ s' = nextDS s0 q.1 most) := by
  induction l with
  | nil => intro _ s _ i p h; simp [playD] at h
  | cons y l ih =>
    intro hQ s hs i p h
    have hQ' : ∀ s x, x ∈ l → Q s → stepD s x most = 0 → Q (nextDS s x most) := fun s x hx => hQ s x (List.mem_cons_of_mem _ hx)
    rw [playD] at h ⊢
    by_cases hy : stepD s y most = 0
    · rw [if_pos hy] at h ⊢
      cases i with
      | zero =>
        simp at h
        subst h
        exact ⟨List.mem_cons_self, s, hs, hy, rfl, fun _ => rfl, fun j e => by omega⟩
      | succ i =>
        rw [List.getElem?_cons_succ] at h
        have hs' := hQ s y List.mem_cons_self hs hy
        obtain ⟨hm, s', h0, h1, h2, h3, h4⟩ := ih hQ' (nextDS s y most) hs' i p h
        refine ⟨List.mem_cons_of_mem _ hm, s', h0, h1, h2, fun e => by omega, fun j e => ?_⟩
        obtain rfl : j = i := by omega
        cases j with
        | zero => exact ⟨(y, nextDP s y most), s, rfl, List.mem_cons_self, hs, hy, rfl, h3 rfl⟩
        | succ j =>
          obtain ⟨q, s0, hq, hqm, he⟩ := h4 j rfl
          exact ⟨q, s0, by rw [List.getElem?_cons_succ]; exact hq, List.mem_cons_of_mem _ hqm, he⟩
    · rw [if_neg hy] at h ⊢
      obtain ⟨hm, s', h0, h1, h2, h3, h4⟩ := ih hQ' s hs i p h
      exact ⟨List.mem_cons_of_mem _ hm, s', h0, h1, h2, h3, fun j e => by obtain ⟨q, s0, hq, hqm, he⟩ := h4 j e; exact ⟨q, s0, hq, List.mem_cons_of_mem _ hqm, he⟩⟩
/-- What is told of the points that were taken, and of what came of them. -/
theorem playD_right {k : Int} {m : Bool} {most : Int} {xs : List Pnt} (hx : ∀ x ∈ xs, x.kind = k ∧ x.mono = m ∧ x.ok ∧ x.light) (i : Nat) : ∀ p, (playD most zeroSt xs)[i]? = some p →
    p.1 ∈ xs ∧ ∃ s', stepD s' p.1 most = 0 ∧ p.2 = nextDP s' p.1 most ∧ StD k m s' ∧ OutD s' p.1 p.2 ∧ (i = 0 → s' = zeroSt) ∧ (∀ j, i = j + 1 → ∃ q, (playD most zeroSt xs)[j]? = some q ∧ s'.some = true ∧ s'.start = q.1.start ∧ s'.time = q.1.time ∧ q.2.time = q.1.time) := by
  have key : ∀ (s' : StV) (p : Pnt × Pnt), p.1 ∈ xs → StD k m s' → stepD s' p.1 most = 0 → OutD s' p.1 (nextDP s' p.1 most) ∧ StD k m (nextDS s' p.1 most) ∧ (nextDS s' p.1 most).start = p.1.start ∧ (nextDS s' p.1 most).time = p.1.time ∧ (nextDS s' p.1 most).some = true := by
    intro s' p hp hs h0
    obtain ⟨k1, k2, k3, k4⟩ := hx _ hp
    have := nextD_right (s := s') (x := p.1) (most := most) (by rw [k1, k2]; exact hs) k3 k4 h0
    rw [k1, k2] at this
    exact this
  intro p hp
  have inv : ∀ s' x, x ∈ xs → StD k m s' → stepD s' x most = 0 → StD k m (nextDS s' x most) := fun s' x hx' hs h0 => (key s' (x, x) hx' hs h0).2.1
  obtain ⟨h1, s', hs, h2, h3, h4, h5⟩ := playD_inv (StD k m) most xs inv zeroSt (fun e => by cases e) i p hp
  refine ⟨h1, s', h2, h3, hs, by rw [h3]; exact (key s' p h1 hs h2).1, h4, fun j e => ?_⟩
  obtain ⟨q, s0, hq, hm, hs0, g1, g2, rfl⟩ := h5 j e
  obtain ⟨a1, a2, a3, a4, a5⟩ := key s0 q hm hs0 g1
  exact ⟨q, hq, a5, a3, a4, by rw [g2]; exact a1.time⟩
end Go.Proofs.Ytiiibhdohlpodaa

namespace Go.Proofs.Ytiiibhdohlpodaa
open Go.RowKit
attribute [local go_sem ↓] Go.wp_at_zero Go.wp_at_succ
/-- awake's point. -/
def awX (time whole : Int) : Pnt := ⟨{ data := #[120] }, [], 1, 1, true, 0, time, whole, 0, 0, zeroHV, 0⟩
theorem awX_at (w : World) (t v : Int) : PntAt w (awX t v) none 0 (.slice none 0 0) (.slice none 0 0) :=
  ⟨fun h => absurd h (Nat.lt_irrefl 0), Nat.le_refl _, ⟨SlAt.ofOwn (base := 0) (e := 25) (World.ownsRow_nil _ _ _ _), SlAt.ofOwn (base := 0) (e := 25) (World.ownsRow_nil _ _ _ _)⟩⟩
theorem awX_light (t v : Int) : (awX t v).light := ⟨show 1 ≤ 1000 by decide, Nat.zero_le _, fun p hp => (by cases hp), Nat.zero_le _, Nat.zero_le _⟩
theorem awX_ok {t v : Int} (ht : I64 t) (hv : I64 v) : (awX t v).ok :=
  ⟨show I64 1 by unfold I64; omega, show I64 1 by unfold I64; omega, show I64 0 by unfold I64; omega, ht, hv, show (0 : Int) ≤ 0 ∧ (0 : Int) ≤ 18446744073709551615 by omega, show (0 : Int) ≤ 0 ∧ (0 : Int) ≤ 18446744073709551615 by omega, zeroHV_ok, show I64 0 by unfold I64; omega⟩
theorem sl_nil15 (w : World) (a : Option Addr) (c : Nat) : SlAt w (.slice a 0 c) (uvals []) := ⟨a, c, rfl, fun _ => rfl, fun _ _ j u hu => by simp [uvals] at hu⟩
/-- Two slices of nothing. -/
def Nul2 (p n : Value) : Prop := ∃ a b c d, p = Value.slice a 0 c ∧ n = Value.slice b 0 d
theorem Nul2.one {p n : Value} (h : Nul2 p n) : p.oneCell' = true ∧ n.oneCell' = true := by
  obtain ⟨a, b, c, d, rfl, rfl⟩ := h
  exact ⟨rfl, rfl⟩
theorem Nul2.in_ {p n : Value} (h : Nul2 p n) (w : World) : HistIn w zeroHV p n := by
  obtain ⟨a, b, c, d, rfl, rfl⟩ := h
  exact ⟨⟨sl_nil15 w a c, sl_nil15 w b d⟩, zeroHV_ok, fun a' n' c' e => by injection e with _ e2 e3; omega, fun a' n' c' e => by injection e with _ e2 e3; omega⟩
theorem aw_step1 : stepD zeroSt (awX 10 5) 10 = 0 := by kernel_rfl
theorem aw_out1 : nextDP zeroSt (awX 10 5) 10 = { awX 10 5 with temp := 2, flags := 1 } := by kernel_rfl
theorem aw_st1 : nextDS zeroSt (awX 10 5) 10 = stOf (awX 10 5) := by kernel_rfl
theorem aw_next1 (sp sn : Value) (w : World) (hz : Nul2 sp sn) : Calls Try.prog 33 #[.agg (stC zeroSt sp sn), .agg (pntC (awX 10 5) (.slice none 0 0) (.slice none 0 0) (.slice none 0 0)), .int .i64 10] w fun e w' =>
    ∃ NS CY tp tn a b c m n k, e = .returned (.tuple #[.agg NS, .agg CY, .int .i64 0]) ∧ NS = stC (stOf (awX 10 5)) tp tn ∧ Nul2 tp tn ∧ CY = pntC { awX 10 5 with temp := 2, flags := 1 } (.slice a 0 m) (.slice b 0 n) (.slice c 0 k) ∧ Kept (fun _ => False) w w' := by
  refine (nextD_any zeroSt sp sn (awX 10 5) none none none 0 0 0 10 w (awX_at w _ _) (awX_ok (by unfold I64; decide) (by unfold I64; decide)) (awX_light _ _) (hz.in_ w) (Nat.zero_le _) (Nat.zero_le _) ⟨by decide, by decide⟩ ⟨by decide, by decide⟩).mono ?_
  rintro e w' ⟨tp, tn, v, rfl, h1, h2⟩
  rw [aw_step1]
  rw [aw_out1] at h2
  rw [aw_st1] at h1 ⊢
  have hk := h2.kept
  obtain ⟨a, b, c, m, n, k, rfl, _⟩ := h2
  obtain ⟨ra, rb, rc, rd, e1, e2, _⟩ := h1
  exact ⟨_, _, tp, tn, a, b, c, m, n, k, rfl, rfl, ⟨ra, rb, rc, rd, e1, e2⟩, rfl, hk⟩
theorem aw_step2 : stepD (stOf (awX 10 5)) (awX 20 8) 10 = 0 := by kernel_rfl
theorem aw_out2 : nextDP (stOf (awX 10 5)) (awX 20 8) 10 = { awX 20 8 with temp := 2, start := 10, whole := 3 } := by kernel_rfl
theorem aw_st2 : nextDS (stOf (awX 10 5)) (awX 20 8) 10 = stOf (awX 20 8) := by kernel_rfl
theorem aw_next2 (sp sn : Value) (w : World) (hz : Nul2 sp sn) : Calls Try.prog 33 #[.agg (stC (stOf (awX 10 5)) sp sn), .agg (pntC (awX 20 8) (.slice none 0 0) (.slice none 0 0) (.slice none 0 0)), .int .i64 10] w fun e w' =>
    ∃ NS CY tp tn a b c m n k, e = .returned (.tuple #[.agg NS, .agg CY, .int .i64 0]) ∧ NS = stC (stOf (awX 20 8)) tp tn ∧ Nul2 tp tn ∧ CY = pntC { awX 20 8 with temp := 2, start := 10, whole := 3 } (.slice a 0 m) (.slice b 0 n) (.slice c 0 k) ∧ Kept (fun _ => False) w w' := by
  refine (nextD_any (stOf (awX 10 5)) sp sn (awX 20 8) none none none 0 0 0 10 w (awX_at w _ _) (awX_ok (by unfold I64; decide) (by unfold I64; decide)) (awX_light _ _) (hz.in_ w) (Nat.zero_le _) (Nat.zero_le _) ⟨by decide, by decide⟩ ⟨by decide, by decide⟩).mono ?_
  rintro e w' ⟨tp, tn, v, rfl, h1, h2⟩
  rw [aw_step2]
  rw [aw_out2] at h2
  rw [aw_st2] at h1 ⊢
  have hk := h2.kept
  obtain ⟨a, b, c, m, n, k, rfl, _⟩ := h2
  obtain ⟨ra, rb, rc, rd, e1, e2, _⟩ := h1
  exact ⟨_, _, tp, tn, a, b, c, m, n, k, rfl, rfl, ⟨ra, rb, rc, rd, e1, e2⟩, rfl, hk⟩
theorem aw_step3 : stepD (stOf (awX 20 8)) (awX 30 2) 10 = 0 := by kernel_rfl
theorem aw_out3 : nextDP (stOf (awX 20 8)) (awX 30 2) 10 = { awX 30 2 with temp := 2, start := 20, flags := 4 } := by kernel_rfl
theorem aw_st3 : nextDS (stOf (awX 20 8)) (awX 30 2) 10 = stOf (awX 30 2) := by kernel_rfl
theorem aw_next3 (sp sn : Value) (w : World) (hz : Nul2 sp sn) : Calls Try.prog 33 #[.agg (stC (stOf (awX 20 8)) sp sn), .agg (pntC (awX 30 2) (.slice none 0 0) (.slice none 0 0) (.slice none 0 0)), .int .i64 10] w fun e w' =>
    ∃ NS CY tp tn a b c m n k, e = .returned (.tuple #[.agg NS, .agg CY, .int .i64 0]) ∧ NS = stC (stOf (awX 30 2)) tp tn ∧ Nul2 tp tn ∧ CY = pntC { awX 30 2 with temp := 2, start := 20, flags := 4 } (.slice a 0 m) (.slice b 0 n) (.slice c 0 k) ∧ Kept (fun _ => False) w w' := by
  refine (nextD_any (stOf (awX 20 8)) sp sn (awX 30 2) none none none 0 0 0 10 w (awX_at w _ _) (awX_ok (by unfold I64; decide) (by unfold I64; decide)) (awX_light _ _) (hz.in_ w) (Nat.zero_le _) (Nat.zero_le _) ⟨by decide, by decide⟩ ⟨by decide, by decide⟩).mono ?_
  rintro e w' ⟨tp, tn, v, rfl, h1, h2⟩
  rw [aw_step3]
  rw [aw_out3] at h2
  rw [aw_st3] at h1 ⊢
  have hk := h2.kept
  obtain ⟨a, b, c, m, n, k, rfl, _⟩ := h2
  obtain ⟨ra, rb, rc, rd, e1, e2, _⟩ := h1
  exact ⟨_, _, tp, tn, a, b, c, m, n, k, rfl, rfl, ⟨ra, rb, rc, rd, e1, e2⟩, rfl, hk⟩
set_option maxHeartbeats 16000000 in
set_option maxRecDepth 100000 in
theorem awake15_any (w : World) : Calls Try.prog 11 #[] w fun e w' => e = .returned (.bool true) ∧ Kept (fun _ => False) w w' := by
  have HN1 := Lib.hid (fun w => aw_next1 (.slice none 0 0) (.slice none 0 0) w ⟨_, _, _, _, rfl, rfl⟩)
  have HN2 := Lib.hid (fun sp sn w h => aw_next2 sp sn w h)
  have HN3 := Lib.hid (fun sp sn w h => aw_next3 sp sn w h)
  obtain ⟨g1, hg1⟩ : ∃ g, g = w.heap.size := ⟨_, rfl⟩
  obtain ⟨CP1, hCP1⟩ : ∃ a, a = (pntC (awX 10 5) (.slice none 0 0) (.slice none 0 0) (.slice none 0 0)) := ⟨_, rfl⟩
  obtain ⟨w1, hw1⟩ : ∃ w1, w1 = w.alloc (.cells #[.string { data := #[120] }, .slice none 0 0, .int .i64 1, .int .i64 1, .bool true, .int .i64 0, .int .i64 10, .int .i64 5, .int .u64 0, .int .u64 0, .int .i64 0, .int .u64 0, .int .i64 0, .slice none 0 0, .int .i64 0, .slice none 0 0, .int .i64 0] 37) := ⟨_, rfl⟩
  have HK1 : Hid (Kept (fun _ => False) w w1) := Lib.hid (by rw [hw1]; exact (Kept.refl _ _).alloc _)
  have HB1 : Hid (w1.heap[g1]? = some (.cells CP1 37 (0, 0))) := Lib.hid (by rw [hw1, hg1, hCP1]; exact heap_alloc_new w _)
  have HW1 := Lib.hid (And.intro hw1 hg1)
  have HG1 : Hid (w.heap.size ≤ g1) := Lib.hid (by omega)
  have HCP1 := Lib.hid hCP1
  have HI1 : Hid ((Try.prog.info? 37).map (·.size) = some CP1.size) := Lib.hid (point_info.trans (by rw [hCP1]; rfl))
  rw [← hCP1] at HN1
  clear hw1 hg1 hCP1
  go_enter Try.func11, Try.ntmps11
  go_upto_region 2 with fail
  rw [← HW1.out.1, ← HW1.out.2]
  go_wp2_with (first
    | (refine wpList_load_row rfl 37 (.tmp 1) rfl g1 rfl 37 _ (0, 0) _ HB1.out Try.underlying37 rfl HI1.out ?_)
    | fail)
  rw [show (Value.agg #[.bool false, .int .i64 0, .int .i64 0, .int .i64 0, .int .u64 0, .int .u64 0, .int .i64 0, .int .u64 0, .int .i64 0, .slice none 0 0, .int .i64 0, .slice none 0 0]) = .agg (stC zeroSt (.slice none 0 0) (.slice none 0 0)) from rfl]
  refine (HN1.out w1).mono ?_
  rintro e w2 ⟨NS1, CY1, tp1, tn1, a1, b1, c1, m1, n1, k1, rfl, hNS1, ho1, hCY1, kk1⟩
  have HIS1 : Hid ((Try.prog.info? 32).map (·.size) = some NS1.size ∧ (#[.bool false, .int .i64 0, .int .i64 0, .int .i64 0, .int .u64 0, .int .u64 0, .int .i64 0, .int .u64 0, .int .i64 0, .slice none 0 0, .int .i64 0, .slice none 0 0] : Array Value).size = NS1.size ∧ NS1.all (·.oneCell') = true) := Lib.hid (by rw [hNS1]; exact ⟨state_info, rfl, stC_one ho1.one⟩)
  have HIY1 : Hid ((Try.prog.info? 37).map (·.size) = some CY1.size ∧ (#[.string { data := #[] }, .slice none 0 0, .int .i64 0, .int .i64 0, .bool false, .int .i64 0, .int .i64 0, .int .i64 0, .int .u64 0, .int .u64 0, .int .i64 0, .int .u64 0, .int .i64 0, .slice none 0 0, .int .i64 0, .slice none 0 0, .int .i64 0] : Array Value).size = CY1.size ∧ CY1.all (·.oneCell') = true) := Lib.hid (by rw [hCY1]; exact ⟨point_info, rfl, pntC_one' (ones_slices _ _ _ _ _ _ _ _ _)⟩)
  have HNS1 := Lib.hid hNS1
  have HZZ1 := Lib.hid ho1
  have HCY1 := Lib.hid hCY1
  have HKc1 := Lib.hid kk1
  clear hNS1 ho1 hCY1 kk1
  obtain ⟨g2, hg2⟩ : ∃ g, g = w2.heap.size := ⟨_, rfl⟩
  have HG2 := Lib.hid hg2
  clear hg2
  have HA2 : Hid (((w2.alloc (.cells #[.bool false, .int .i64 0, .int .i64 0, .int .i64 0, .int .u64 0, .int .u64 0, .int .i64 0, .int .u64 0, .int .i64 0, .slice none 0 0, .int .i64 0, .slice none 0 0] 32)).alloc (.cells #[.string { data := #[] }, .slice none 0 0, .int .i64 0, .int .i64 0, .bool false, .int .i64 0, .int .i64 0, .int .i64 0, .int .u64 0, .int .u64 0, .int .i64 0, .int .u64 0, .int .i64 0, .slice none 0 0, .int .i64 0, .slice none 0 0, .int .i64 0] 37)).heap[w2.heap.size]? = some (.cells #[.bool false, .int .i64 0, .int .i64 0, .int .i64 0, .int .u64 0, .int .u64 0, .int .i64 0, .int .u64 0, .int .i64 0, .slice none 0 0, .int .i64 0, .slice none 0 0] 32 (0, 0)) ∧ ((w2.alloc (.cells #[.bool false, .int .i64 0, .int .i64 0, .int .i64 0, .int .u64 0, .int .u64 0, .int .i64 0, .int .u64 0, .int .i64 0, .slice none 0 0, .int .i64 0, .slice none 0 0] 32)).alloc (.cells #[.string { data := #[] }, .slice none 0 0, .int .i64 0, .int .i64 0, .bool false, .int .i64 0, .int .i64 0, .int .i64 0, .int .u64 0, .int .u64 0, .int .i64 0, .int .u64 0, .int .i64 0, .slice none 0 0, .int .i64 0, .slice none 0 0, .int .i64 0] 37)).heap[w2.heap.size + 1]? = some (.cells #[.string { data := #[] }, .slice none 0 0, .int .i64 0, .int .i64 0, .bool false, .int .i64 0, .int .i64 0, .int .i64 0, .int .u64 0, .int .u64 0, .int .i64 0, .int .u64 0, .int .i64 0, .slice none 0 0, .int .i64 0, .slice none 0 0, .int .i64 0] 37 (0, 0)) ∧ Kept (fun _ => False) w2 ((w2.alloc (.cells #[.bool false, .int .i64 0, .int .i64 0, .int .i64 0, .int .u64 0, .int .u64 0, .int .i64 0, .int .u64 0, .int .i64 0, .slice none 0 0, .int .i64 0, .slice none 0 0] 32)).alloc (.cells #[.string { data := #[] }, .slice none 0 0, .int .i64 0, .int .i64 0, .bool false, .int .i64 0, .int .i64 0, .int .i64 0, .int .u64 0, .int .u64 0, .int .i64 0, .int .u64 0, .int .i64 0, .slice none 0 0, .int .i64 0, .slice none 0 0, .int .i64 0] 37))) := Lib.hid ⟨((Kept.refl (fun _ => False) _).alloc _).same (heap_alloc_new w2 _) (fun x => x), box_second2 w2 _ _, ((Kept.refl _ _).alloc _).alloc _⟩
  go_upto_region 3 with (first | (refine wpList_store_to rfl 32 (.tmp 2) _ rfl w2.heap.size NS1 rfl rfl 32 #[.bool false, .int .i64 0, .int .i64 0, .int .i64 0, .int .u64 0, .int .u64 0, .int .i64 0, .int .u64 0, .int .i64 0, .slice none 0 0, .int .i64 0, .slice none 0 0] HA2.out.1 HIS1.out.1 HIS1.out.2.1 HIS1.out.2.2 ?_; intro w3 hb3 k3; have HB3 := Lib.hid hb3; have HK3 := Lib.hid k3; clear hb3 k3) | (refine wpList_store_to rfl 37 (.tmp 3) _ rfl (w2.heap.size + 1) CY1 rfl rfl 37 #[.string { data := #[] }, .slice none 0 0, .int .i64 0, .int .i64 0, .bool false, .int .i64 0, .int .i64 0, .int .i64 0, .int .u64 0, .int .u64 0, .int .i64 0, .int .u64 0, .int .i64 0, .slice none 0 0, .int .i64 0, .slice none 0 0, .int .i64 0] (HK3.out.same HA2.out.2.1 (by omega)) HIY1.out.1 HIY1.out.2.1 HIY1.out.2.2 ?_; intro w4 hb4 k4; have HB4 := Lib.hid hb4; have HK4 := Lib.hid k4; clear hb4 k4))
  rw [← HG2.out]
  have HLT : Hid (g1 < g2 ∧ w.heap.size ≤ g2) := Lib.hid (by have h1 := (Array.getElem?_eq_some_iff.1 (HKc1.out.same HB1.out (fun x => x))).1; have := HG2.out; have := HG1.out; omega)
  have HKw4 : Hid (Kept (fun _ => False) w w4) := Lib.hid ((((HK1.out.trans HKc1.out).trans HA2.out.2.2).newer HK3.out (fun i e => by have := HLT.out; have := HG2.out; omega)).newer HK4.out (fun i e => by have := HLT.out; have := HG2.out; omega))
  have HF4 : Hid (w4.heap[g1]? = some (.cells CP1 37 (0, 0)) ∧ w4.heap[g2]? = some (.cells NS1 32 (0, 0)) ∧ w4.heap[g2 + 1]? = some (.cells CY1 37 (0, 0))) := Lib.hid (by have hl := HLT.out; have hg := HG2.out; refine ⟨HK4.out.same (HK3.out.same (HA2.out.2.2.same (HKc1.out.same HB1.out (fun x => x)) (fun x => x)) (by omega)) (by omega), ?_, ?_⟩; exact HK4.out.same (by rw [hg]; exact HB3.out) (by omega); rw [hg]; exact HB4.out)
  clear HA2 HB3 HB4 HK3 HK4 HN1
  obtain ⟨CQ, hCQ⟩ : ∃ a, a = (pntC (awX 20 5) (.slice none 0 0) (.slice none 0 0) (.slice none 0 0)) := ⟨_, rfl⟩
  obtain ⟨CP2, hCP2⟩ : ∃ a, a = (pntC (awX 20 8) (.slice none 0 0) (.slice none 0 0) (.slice none 0 0)) := ⟨_, rfl⟩
  have HI2 : Hid ((Try.prog.info? 37).map (·.size) = some CP2.size) := Lib.hid (point_info.trans (by rw [hCP2]; rfl))
  have HE1 : Hid (CQ = CP1.setIfInBounds 6 (.int .i64 20)) := Lib.hid (by rw [hCQ, HCP1.out]; rfl)
  have HE2 : Hid (CP2 = CQ.setIfInBounds 7 (.int .i64 8)) := Lib.hid (by rw [hCP2, hCQ]; rfl)
  have HCQ := Lib.hid hCQ
  have HCP2 := Lib.hid hCP2
  rw [← hCP2] at HN2
  clear hCQ hCP2
  have pc : w4.cell? ⟨g1, 6, none⟩ = some (.int .i64 10) := cell_rowZ 6 _ HF4.out.1 (by rw [HCP1.out]; rfl)
  have pf := free_of_rowZ 6 HF4.out.1
  go_upto_region 4 with fail
  clear pc pf
  obtain ⟨w5, hwn⟩ : ∃ w', w' = w4.setCell ⟨g1, 6, none⟩ (.int .i64 20) := ⟨_, rfl⟩
  have kk : Kept (fun i => i = g1) w4 w5 := by rw [hwn]; exact (Kept.refl (fun k => k = g1) w4).setCell (p := ⟨g1, 6, none⟩) (fun _ => rfl) _
  have hb : w5.heap[g1]? = some (.cells CQ 37 (0, 0)) := by rw [hwn, HE1.out]; exact heap_setCell_same _ _ 6 _ _ _ HF4.out.1
  have HF5 := Lib.hid (And.intro hb (And.intro (kk.same HF4.out.2.1 (by have := HLT.out; omega)) (kk.same HF4.out.2.2 (by have := HLT.out; omega))))
  have HKw5 := Lib.hid (HKw4.out.newer kk (fun i e => by have := HG1.out; omega))
  rw [← hwn]
  clear hwn kk hb
  have pc : w5.cell? ⟨g1, 7, none⟩ = some (.int .i64 5) := cell_rowZ 7 _ HF5.out.1 (by rw [HCQ.out]; rfl)
  have pf := free_of_rowZ 7 HF5.out.1
  go_upto_region 5 with fail
  clear pc pf
  obtain ⟨w6, hwn⟩ : ∃ w', w' = w5.setCell ⟨g1, 7, none⟩ (.int .i64 8) := ⟨_, rfl⟩
  have kk : Kept (fun i => i = g1) w5 w6 := by rw [hwn]; exact (Kept.refl (fun k => k = g1) w5).setCell (p := ⟨g1, 7, none⟩) (fun _ => rfl) _
  have hb : w6.heap[g1]? = some (.cells CP2 37 (0, 0)) := by rw [hwn, HE2.out]; exact heap_setCell_same _ _ 7 _ _ _ HF5.out.1
  have HF6 := Lib.hid (And.intro hb (And.intro (kk.same HF5.out.2.1 (by have := HLT.out; omega)) (kk.same HF5.out.2.2 (by have := HLT.out; omega))))
  have HKw6 := Lib.hid (HKw5.out.newer kk (fun i e => by have := HG1.out; omega))
  rw [← hwn]
  clear hwn kk hb
  clear HF4 HF5 HKw4 HKw5
  go_wp2_with (first
    | (refine wpList_load_row rfl 32 (.tmp 2) rfl g2 rfl 32 _ (0, 0) _ HF6.out.2.1 Try.underlying32 rfl HIS1.out.1 ?_)
    | (refine wpList_load_row rfl 37 (.tmp 1) rfl g1 rfl 37 _ (0, 0) _ HF6.out.1 Try.underlying37 rfl HI2.out ?_)
    | fail)
  rw [HNS1.out]
  refine (HN2.out _ _ w6 HZZ1.out).mono ?_
  rintro e w7 ⟨NS2, CY2, tp2, tn2, a2, b2, c2, m2, n2, k2, rfl, hNS2, ho2, hCY2, kk2⟩
  have HIS2 : Hid ((Try.prog.info? 32).map (·.size) = some NS2.size ∧ (#[.bool false, .int .i64 0, .int .i64 0, .int .i64 0, .int .u64 0, .int .u64 0, .int .i64 0, .int .u64 0, .int .i64 0, .slice none 0 0, .int .i64 0, .slice none 0 0] : Array Value).size = NS2.size ∧ NS2.all (·.oneCell') = true) := Lib.hid (by rw [hNS2]; exact ⟨state_info, rfl, stC_one ho2.one⟩)
  have HIY2 : Hid ((Try.prog.info? 37).map (·.size) = some CY2.size ∧ (#[.string { data := #[] }, .slice none 0 0, .int .i64 0, .int .i64 0, .bool false, .int .i64 0, .int .i64 0, .int .i64 0, .int .u64 0, .int .u64 0, .int .i64 0, .int .u64 0, .int .i64 0, .slice none 0 0, .int .i64 0, .slice none 0 0, .int .i64 0] : Array Value).size = CY2.size ∧ CY2.all (·.oneCell') = true) := Lib.hid (by rw [hCY2]; exact ⟨point_info, rfl, pntC_one' (ones_slices _ _ _ _ _ _ _ _ _)⟩)
  have HNS2 := Lib.hid hNS2
  have HZZ2 := Lib.hid ho2
  have HCY2 := Lib.hid hCY2
  have HKc2 := Lib.hid kk2
  clear hNS2 ho2 hCY2 kk2
  rw [← HNS1.out]
  obtain ⟨g5, hg5⟩ : ∃ g, g = w7.heap.size := ⟨_, rfl⟩
  have HG5 := Lib.hid hg5
  clear hg5
  have HA5 : Hid ((w7.alloc (.cells #[.string { data := #[] }, .slice none 0 0, .int .i64 0, .int .i64 0, .bool false, .int .i64 0, .int .i64 0, .int .i64 0, .int .u64 0, .int .u64 0, .int .i64 0, .int .u64 0, .int .i64 0, .slice none 0 0, .int .i64 0, .slice none 0 0, .int .i64 0] 37)).heap[w7.heap.size]? = some (.cells #[.string { data := #[] }, .slice none 0 0, .int .i64 0, .int .i64 0, .bool false, .int .i64 0, .int .i64 0, .int .i64 0, .int .u64 0, .int .u64 0, .int .i64 0, .int .u64 0, .int .i64 0, .slice none 0 0, .int .i64 0, .slice none 0 0, .int .i64 0] 37 (0, 0)) ∧ Kept (fun _ => False) w7 (w7.alloc (.cells #[.string { data := #[] }, .slice none 0 0, .int .i64 0, .int .i64 0, .bool false, .int .i64 0, .int .i64 0, .int .i64 0, .int .u64 0, .int .u64 0, .int .i64 0, .int .u64 0, .int .i64 0, .slice none 0 0, .int .i64 0, .slice none 0 0, .int .i64 0] 37))) := Lib.hid ⟨heap_alloc_new w7 _, (Kept.refl _ _).alloc _⟩
  have HL5 : Hid (g2 + 1 < w7.heap.size) := Lib.hid (Array.getElem?_eq_some_iff.1 (HKc2.out.same HF6.out.2.2 (fun x => x))).1
  go_upto_region 6 with (first | (refine wpList_store_to rfl 32 (.tmp 2) _ rfl g2 NS2 rfl rfl 32 NS1 (HA5.out.2.same (HKc2.out.same HF6.out.2.1 (fun x => x)) (fun x => x)) HIS2.out.1 (HIS1.out.2.1.symm.trans HIS2.out.2.1) HIS2.out.2.2 ?_; intro w8 hb8 k8; have HB8 := Lib.hid hb8; have HK8 := Lib.hid k8; clear hb8 k8) | (refine wpList_store_to rfl 37 (.tmp 5) _ rfl w7.heap.size CY2 rfl rfl 37 #[.string { data := #[] }, .slice none 0 0, .int .i64 0, .int .i64 0, .bool false, .int .i64 0, .int .i64 0, .int .i64 0, .int .u64 0, .int .u64 0, .int .i64 0, .int .u64 0, .int .i64 0, .slice none 0 0, .int .i64 0, .slice none 0 0, .int .i64 0] (HK8.out.same HA5.out.1 (by have := HL5.out; omega)) HIY2.out.1 HIY2.out.2.1 HIY2.out.2.2 ?_; intro w9 hb9 k9; have HB9 := Lib.hid hb9; have HK9 := Lib.hid k9; clear hb9 k9))
  rw [← HG5.out]
  have HL6 : Hid (g2 + 1 < g5) := Lib.hid (by have := HL5.out; have := HG5.out; omega)
  have HKw9 : Hid (Kept (fun _ => False) w w9) := Lib.hid ((((HKw6.out.trans HKc2.out).trans HA5.out.2).newer HK8.out (fun i e => by have := HLT.out; omega)).newer HK9.out (fun i e => by have := HLT.out; have := HL5.out; omega))
  have HF9 : Hid (w9.heap[g1]? = some (.cells CP2 37 (0, 0)) ∧ w9.heap[g2]? = some (.cells NS2 32 (0, 0)) ∧ w9.heap[g2 + 1]? = some (.cells CY1 37 (0, 0)) ∧ w9.heap[g5]? = some (.cells CY2 37 (0, 0))) := Lib.hid (by have hl := HLT.out; have hg := HG5.out; have h6 := HL6.out; refine ⟨HK9.out.same (HK8.out.same (HA5.out.2.same (HKc2.out.same HF6.out.1 (fun x => x)) (fun x => x)) (by omega)) (by omega), HK9.out.same HB8.out (by omega), HK9.out.same (HK8.out.same (HA5.out.2.same (HKc2.out.same HF6.out.2.2 (fun x => x)) (fun x => x)) (by omega)) (by omega), ?_⟩; rw [hg]; exact HB9.out)
  clear HA5 HB8 HB9 HK8 HK9 HN2 HF6 HKw6
  obtain ⟨CR, hCR⟩ : ∃ a, a = (pntC (awX 30 8) (.slice none 0 0) (.slice none 0 0) (.slice none 0 0)) := ⟨_, rfl⟩
  obtain ⟨CP3, hCP3⟩ : ∃ a, a = (pntC (awX 30 2) (.slice none 0 0) (.slice none 0 0) (.slice none 0 0)) := ⟨_, rfl⟩
  have HI3 : Hid ((Try.prog.info? 37).map (·.size) = some CP3.size) := Lib.hid (point_info.trans (by rw [hCP3]; rfl))
  have HE3 : Hid (CR = CP2.setIfInBounds 6 (.int .i64 30)) := Lib.hid (by rw [hCR, HCP2.out]; rfl)
  have HE4 : Hid (CP3 = CR.setIfInBounds 7 (.int .i64 2)) := Lib.hid (by rw [hCP3, hCR]; rfl)
  have HCR := Lib.hid hCR
  rw [← hCP3] at HN3
  clear hCR hCP3
  have pc : w9.cell? ⟨g1, 6, none⟩ = some (.int .i64 20) := cell_rowZ 6 _ HF9.out.1 (by rw [HCP2.out]; rfl)
  have pf := free_of_rowZ 6 HF9.out.1
  go_upto_region 7 with fail
  clear pc pf
  obtain ⟨w10, hwn⟩ : ∃ w', w' = w9.setCell ⟨g1, 6, none⟩ (.int .i64 30) := ⟨_, rfl⟩
  have kk : Kept (fun i => i = g1) w9 w10 := by rw [hwn]; exact (Kept.refl (fun k => k = g1) w9).setCell (p := ⟨g1, 6, none⟩) (fun _ => rfl) _
  have hb : w10.heap[g1]? = some (.cells CR 37 (0, 0)) := by rw [hwn, HE3.out]; exact heap_setCell_same _ _ 6 _ _ _ HF9.out.1
  have HF10 := Lib.hid (And.intro hb (And.intro (kk.same HF9.out.2.1 (by have := HLT.out; omega)) (And.intro (kk.same HF9.out.2.2.1 (by have := HLT.out; omega)) (kk.same HF9.out.2.2.2 (by have := HLT.out; have := HL6.out; omega)))))
  have HKw10 := Lib.hid (HKw9.out.newer kk (fun i e => by have := HG1.out; omega))
  rw [← hwn]
  clear hwn kk hb
  have pc : w10.cell? ⟨g1, 7, none⟩ = some (.int .i64 8) := cell_rowZ 7 _ HF10.out.1 (by rw [HCR.out]; rfl)
  have pf := free_of_rowZ 7 HF10.out.1
  go_upto_region 8 with fail
  clear pc pf
  obtain ⟨w11, hwn⟩ : ∃ w', w' = w10.setCell ⟨g1, 7, none⟩ (.int .i64 2) := ⟨_, rfl⟩
  have kk : Kept (fun i => i = g1) w10 w11 := by rw [hwn]; exact (Kept.refl (fun k => k = g1) w10).setCell (p := ⟨g1, 7, none⟩) (fun _ => rfl) _
  have hb : w11.heap[g1]? = some (.cells CP3 37 (0, 0)) := by rw [hwn, HE4.out]; exact heap_setCell_same _ _ 7 _ _ _ HF10.out.1
  have HF11 := Lib.hid (And.intro hb (And.intro (kk.same HF10.out.2.1 (by have := HLT.out; omega)) (And.intro (kk.same HF10.out.2.2.1 (by have := HLT.out; omega)) (kk.same HF10.out.2.2.2 (by have := HLT.out; have := HL6.out; omega)))))
  have HKw11 := Lib.hid (HKw10.out.newer kk (fun i e => by have := HG1.out; omega))
  rw [← hwn]
  clear hwn kk hb
  clear HF9 HF10 HKw9 HKw10
  go_wp2_with (first
    | (refine wpList_load_row rfl 32 (.tmp 2) rfl g2 rfl 32 _ (0, 0) _ HF11.out.2.1 Try.underlying32 rfl HIS2.out.1 ?_)
    | (refine wpList_load_row rfl 37 (.tmp 1) rfl g1 rfl 37 _ (0, 0) _ HF11.out.1 Try.underlying37 rfl HI3.out ?_)
    | fail)
  rw [HNS2.out]
  refine (HN3.out _ _ w11 HZZ2.out).mono ?_
  rintro e w12 ⟨NS3, CY3, tp3, tn3, a3, b3, c3, m3, n3, k3, rfl, hNS3, ho3, hCY3, kk3⟩
  have HIS3 : Hid ((Try.prog.info? 32).map (·.size) = some NS3.size ∧ (#[.bool false, .int .i64 0, .int .i64 0, .int .i64 0, .int .u64 0, .int .u64 0, .int .i64 0, .int .u64 0, .int .i64 0, .slice none 0 0, .int .i64 0, .slice none 0 0] : Array Value).size = NS3.size ∧ NS3.all (·.oneCell') = true) := Lib.hid (by rw [hNS3]; exact ⟨state_info, rfl, stC_one ho3.one⟩)
  have HIY3 : Hid ((Try.prog.info? 37).map (·.size) = some CY3.size ∧ (#[.string { data := #[] }, .slice none 0 0, .int .i64 0, .int .i64 0, .bool false, .int .i64 0, .int .i64 0, .int .i64 0, .int .u64 0, .int .u64 0, .int .i64 0, .int .u64 0, .int .i64 0, .slice none 0 0, .int .i64 0, .slice none 0 0, .int .i64 0] : Array Value).size = CY3.size ∧ CY3.all (·.oneCell') = true) := Lib.hid (by rw [hCY3]; exact ⟨point_info, rfl, pntC_one' (ones_slices _ _ _ _ _ _ _ _ _)⟩)
  have HNS3 := Lib.hid hNS3
  have HZZ3 := Lib.hid ho3
  have HCY3 := Lib.hid hCY3
  have HKc3 := Lib.hid kk3
  clear hNS3 ho3 hCY3 kk3
  rw [← HNS2.out]
  obtain ⟨g7, hg7⟩ : ∃ g, g = w12.heap.size := ⟨_, rfl⟩
  have HG7 := Lib.hid hg7
  clear hg7
  have HA7 : Hid (((w12.alloc (.cells #[.bool false, .int .i64 0, .int .i64 0, .int .i64 0, .int .u64 0, .int .u64 0, .int .i64 0, .int .u64 0, .int .i64 0, .slice none 0 0, .int .i64 0, .slice none 0 0] 32)).alloc (.cells #[.string { data := #[] }, .slice none 0 0, .int .i64 0, .int .i64 0, .bool false, .int .i64 0, .int .i64 0, .int .i64 0, .int .u64 0, .int .u64 0, .int .i64 0, .int .u64 0, .int .i64 0, .slice none 0 0, .int .i64 0, .slice none 0 0, .int .i64 0] 37)).heap[w12.heap.size]? = some (.cells #[.bool false, .int .i64 0, .int .i64 0, .int .i64 0, .int .u64 0, .int .u64 0, .int .i64 0, .int .u64 0, .int .i64 0, .slice none 0 0, .int .i64 0, .slice none 0 0] 32 (0, 0)) ∧ ((w12.alloc (.cells #[.bool false, .int .i64 0, .int .i64 0, .int .i64 0, .int .u64 0, .int .u64 0, .int .i64 0, .int .u64 0, .int .i64 0, .slice none 0 0, .int .i64 0, .slice none 0 0] 32)).alloc (.cells #[.string { data := #[] }, .slice none 0 0, .int .i64 0, .int .i64 0, .bool false, .int .i64 0, .int .i64 0, .int .i64 0, .int .u64 0, .int .u64 0, .int .i64 0, .int .u64 0, .int .i64 0, .slice none 0 0, .int .i64 0, .slice none 0 0, .int .i64 0] 37)).heap[w12.heap.size + 1]? = some (.cells #[.string { data := #[] }, .slice none 0 0, .int .i64 0, .int .i64 0, .bool false, .int .i64 0, .int .i64 0, .int .i64 0, .int .u64 0, .int .u64 0, .int .i64 0, .int .u64 0, .int .i64 0, .slice none 0 0, .int .i64 0, .slice none 0 0, .int .i64 0] 37 (0, 0)) ∧ Kept (fun _ => False) w12 ((w12.alloc (.cells #[.bool false, .int .i64 0, .int .i64 0, .int .i64 0, .int .u64 0, .int .u64 0, .int .i64 0, .int .u64 0, .int .i64 0, .slice none 0 0, .int .i64 0, .slice none 0 0] 32)).alloc (.cells #[.string { data := #[] }, .slice none 0 0, .int .i64 0, .int .i64 0, .bool false, .int .i64 0, .int .i64 0, .int .i64 0, .int .u64 0, .int .u64 0, .int .i64 0, .int .u64 0, .int .i64 0, .slice none 0 0, .int .i64 0, .slice none 0 0, .int .i64 0] 37))) := Lib.hid ⟨((Kept.refl (fun _ => False) _).alloc _).same (heap_alloc_new w12 _) (fun x => x), box_second2 w12 _ _, ((Kept.refl _ _).alloc _).alloc _⟩
  have HL7 : Hid (g5 < w12.heap.size) := Lib.hid (Array.getElem?_eq_some_iff.1 (HKc3.out.same HF11.out.2.2.2 (fun x => x))).1
  go_upto_region 9 with (first | (refine wpList_store_to rfl 32 (.tmp 7) _ rfl w12.heap.size NS3 rfl rfl 32 #[.bool false, .int .i64 0, .int .i64 0, .int .i64 0, .int .u64 0, .int .u64 0, .int .i64 0, .int .u64 0, .int .i64 0, .slice none 0 0, .int .i64 0, .slice none 0 0] HA7.out.1 HIS3.out.1 HIS3.out.2.1 HIS3.out.2.2 ?_; intro w13 hb13 k13; have HK13 := Lib.hid k13; clear hb13 k13) | (refine wpList_store_to rfl 37 (.tmp 8) _ rfl (w12.heap.size + 1) CY3 rfl rfl 37 #[.string { data := #[] }, .slice none 0 0, .int .i64 0, .int .i64 0, .bool false, .int .i64 0, .int .i64 0, .int .i64 0, .int .u64 0, .int .u64 0, .int .i64 0, .int .u64 0, .int .i64 0, .slice none 0 0, .int .i64 0, .slice none 0 0, .int .i64 0] (HK13.out.same HA7.out.2.1 (by omega)) HIY3.out.1 HIY3.out.2.1 HIY3.out.2.2 ?_; intro w14 hb14 k14; have HB14 := Lib.hid hb14; have HK14 := Lib.hid k14; clear hb14 k14))
  rw [← HG7.out]
  have hl := HLT.out
  have hg := HG7.out
  have h6 := HL6.out
  have h7 := HL7.out
  have hz := HG1.out
  have HKw : Hid (Kept (fun _ => False) w w14) := Lib.hid ((((HKw11.out.trans HKc3.out).trans HA7.out.2.2).newer HK13.out (fun i e => by omega)).newer HK14.out (fun i e => by omega))
  have F3 := HK14.out.same (HK13.out.same (HA7.out.2.2.same (HKc3.out.same HF11.out.2.2.1 (fun x => x)) (fun x => x)) (by omega)) (by omega)
  have F5 := HK14.out.same (HK13.out.same (HA7.out.2.2.same (HKc3.out.same HF11.out.2.2.2 (fun x => x)) (fun x => x)) (by omega)) (by omega)
  have F8 := HB14.out
  rw [← hg] at F8
  have x1 : w14.cell? ⟨g2 + 1, 16, none⟩ = some (.int .i64 1) := cell_rowZ 16 _ F3 (by rw [HCY1.out]; rfl)
  have x2 : w14.cell? ⟨g2 + 1, 7, none⟩ = some (.int .i64 5) := cell_rowZ 7 _ F3 (by rw [HCY1.out]; rfl)
  have x3 : w14.cell? ⟨g2 + 1, 3, none⟩ = some (.int .i64 2) := cell_rowZ 3 _ F3 (by rw [HCY1.out]; rfl)
  have x4 : w14.cell? ⟨g5, 16, none⟩ = some (.int .i64 0) := cell_rowZ 16 _ F5 (by rw [HCY2.out]; rfl)
  have x5 : w14.cell? ⟨g5, 7, none⟩ = some (.int .i64 3) := cell_rowZ 7 _ F5 (by rw [HCY2.out]; rfl)
  have x6 : w14.cell? ⟨g5, 5, none⟩ = some (.int .i64 10) := cell_rowZ 5 _ F5 (by rw [HCY2.out]; rfl)
  have x7 : w14.cell? ⟨g7 + 1, 16, none⟩ = some (.int .i64 4) := cell_rowZ 16 _ F8 (by rw [HCY3.out]; rfl)
  have x8 : w14.cell? ⟨g7 + 1, 7, none⟩ = some (.int .i64 2) := cell_rowZ 7 _ F8 (by rw [HCY3.out]; rfl)
  have x9 : w14.cell? ⟨g7 + 1, 5, none⟩ = some (.int .i64 20) := cell_rowZ 5 _ F8 (by rw [HCY3.out]; rfl)
  clear hl hg h6 h7 hz F3 F5 F8 HA7
  go_wp2
  go_ret
  exact ⟨rfl, HKw.out⟩
end Go.Proofs.Ytiiibhdohlpodaa

