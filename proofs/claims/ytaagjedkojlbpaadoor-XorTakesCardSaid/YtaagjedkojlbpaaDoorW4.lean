/- package xor: put. -/
import Derived.Test.YtaagjedkojlbpaaDoorW3
namespace Go.Proofs.YtaagjedkojlbpaaDoor
open Go.RowKit
attribute [local go_sem ↓] Go.wp_at_zero Go.wp_at_succ

/-- A writer, and two windows in blocks of their own. -/
structure PutS (w wi : World) (B p : Nat) (v : Value) (q r : Nat) (f s f' s' : Int) (bs : List Bool) : Prop where
  bw : BwTo w wi B p v bs
  wb : WinBox wi q f s
  rb : WinBox wi r f' s'
  hq : w.heap.size ≤ q
  hr : w.heap.size ≤ r
  qr : q ≠ r
  tab : BruTab wi
section
variable {w wi w2 : World} {B p q r : Nat} {v : Value} {f s f' s' : Int} {bs : List Bool}
theorem PutS.kept (h : PutS w wi B p v q r f s f' s' bs) : ∃ v1, BwAt wi B p v1 bs ∧ (v1.ownBlock = v.ownBlock ∨ ∃ k, v1.ownBlock = some k ∧ w.heap.size ≤ k) ∧ Kept (fun k => k = p ∨ v.ownBlock = some k) w wi := h.bw
theorem PutS.on (h : PutS w wi B p v q r f s f' s' bs) (k : Kept (fun _ => False) wi w2) : PutS w w2 B p v q r f s f' s' bs := by
  obtain ⟨v1, h1, a1, k1⟩ := h.bw
  exact ⟨⟨v1, h1.keptF k, a1, k1.step k (fun _ _ x => x.elim)⟩, h.wb.same k (fun x => x), h.rb.same k (fun x => x), h.hq, h.hr, h.qr, h.tab.kept k⟩
theorem PutS.put (h : PutS w wi B p v q r f s f' s' bs) (hB0 : 2 < B) (hB : B ≤ w.heap.size) :
    ∃ v1, BwAt wi B p v1 bs ∧ B ≤ wi.heap.size ∧ ∀ w2 l2, BwTo wi w2 B p v1 l2 → PutS w w2 B p v q r f s f' s' l2 := by
  obtain ⟨v1, h1, hs, hn⟩ := h.bw.part
  have n1 := h1.apartT h.wb (by decide) (by decide)
  have n2 := h1.apartT h.rb (by decide) (by decide)
  refine ⟨v1, h1, by omega, fun w2 l2 k => ?_⟩
  have hto := hn.out w2 l2 k
  obtain ⟨v2, h2, a2, k2⟩ := k
  refine ⟨hto, h.wb.same k2 (fun e => e.elim n1.1 n1.2), h.rb.same k2 (fun e => e.elim n2.1 n2.2), h.hq, h.hr, h.qr, h.tab.keptS k2 ?_⟩
  rintro (e | e)
  · have := h1.base; omega
  · have := (ownsRow_lt h1.owns e).2; omega
theorem PutS.setq (h : PutS w wi B p v q r f s f' s' bs) (hw : 2 < w.heap.size) (a b : Int) : PutS w (set2 wi q (.int .i64 a) (.int .i64 b)) B p v q r a b f' s' bs := by
  obtain ⟨v1, h1, a1, k1⟩ := h.bw
  have n1 := h1.apartT h.wb (by decide) (by decide)
  have k := set2_kept wi q (.int .i64 a) (.int .i64 b)
  refine ⟨⟨v1, h1.kept k (fun e => n1.1 e.symm) (fun k e x => n1.2 (by rw [e, x])), a1, k1.step k (fun i hi x => by have := h.hq; omega)⟩, h.wb.set a b, h.rb.same k (fun e => h.qr e.symm), h.hq, h.hr, h.qr, h.tab.keptS k ?_⟩
  have := h.hq; omega
theorem PutS.setr (h : PutS w wi B p v q r f s f' s' bs) (a b : Int) : BwTo w (set2 wi r (.int .i64 a) (.int .i64 b)) B p v bs := by
  obtain ⟨v1, h1, a1, k1⟩ := h.bw
  have n1 := h1.apartT h.rb (by decide) (by decide)
  have k := set2_kept wi r (.int .i64 a) (.int .i64 b)
  exact ⟨v1, h1.kept k (fun e => n1.1 e.symm) (fun k e x => n1.2 (by rw [e, x])), a1, k1.step k (fun i hi x => by have := h.hr; omega)⟩
end
theorem PutS.start {w : World} {B p : Nat} {v : Value} {bs : List Bool} (h : BwAt w B p v bs) (HT : BruTab w) (f s : Int) :
    PutS w ((w.alloc (.cells #[.int .i64 f, .int .i64 s] 91)).alloc (.cells #[.int .i64 0, .int .i64 0] 91)) B p v w.heap.size (w.heap.size + 1) f s 0 0 bs := by
  have k := fun (w : World) o => (Kept.refl (fun _ => False) w).alloc o
  have k2 := (k w (.cells #[.int .i64 f, .int .i64 s] 91)).trans (k _ (.cells #[.int .i64 0, .int .i64 0] 91))
  refine ⟨⟨v, h.keptF k2, .inl rfl, k2.mono (fun _ _ x => x.elim)⟩, (WinBox.new w f s).same (k _ _) (fun x => x), ?_, Nat.le_refl _, Nat.le_succ _, by omega, HT.kept k2⟩
  have := WinBox.new (w.alloc (.cells #[.int .i64 f, .int .i64 s] 91)) 0 0
  rw [show (w.alloc (.cells #[.int .i64 f, .int .i64 s] 91)).heap.size = w.heap.size + 1 by simp] at this
  exact this

set_option maxHeartbeats 4000000 in
set_option maxRecDepth 100000 in
theorem xput_any (B p : Nat) (v : Value) (bs : List Bool) (f s x : Nat) (w : World) (HW : BwAt w B p v bs) (hB0 : 2 < B) (hB : B ≤ w.heap.size) (hok : okW f s) (hx : x < 18446744073709551616) (hl : bs.length ≤ 900000000) (HT : BruTab w) :
    Calls Tryd.prog 60 #[.pointer (some ⟨p, 0, none⟩), winV f s, .int .u64 x] w fun e w' => e = .returned (winV (putX f s x).2.1 (putX f s x).2.2) ∧ BwTo w w' B p v (bs ++ (putX f s x).1) := by
  have hle := hok.le
  have HL0 : Hid (bs.length ≤ 900000000 + 0) := Lib.hid (by omega)
  have hp0 := PutS.start HW HT (f : Int) (s : Int)
  obtain ⟨w0, hw0⟩ : ∃ w', w' = ((w.alloc (.cells #[.int .i64 (f : Int), .int .i64 (s : Int)] 91)).alloc (.cells #[.int .i64 0, .int .i64 0] 91)) := ⟨_, rfl⟩
  rw [← hw0] at hp0
  have HP0 := Lib.hid hp0
  have HW0 := Lib.hid hw0
  have HHO := Lib.hid fun w1 (h : BruTab w1) => holds_any f s x (by omega) (by omega) hx w1 h
  have hhb : holdsB f s x = decide (0 < s ∧ inW f s x) := by
    unfold holdsB
    rw [decide_eq_decide]
    unfold okW at hok
    constructor
    · rintro ⟨a, b⟩; exact ⟨by omega, b⟩
    · rintro ⟨a, b⟩; exact ⟨by omega, b⟩
  rw [hhb] at HHO
  rcases putX_cases f s x hx with ⟨h0, e⟩ | ⟨h0, h1, h2, e⟩ | ⟨h0, h1, hn, e⟩
  · rw [e]
    subst h0
    unfold winV at HHO ⊢
    clear HW HT hp0 hw0 hhb hok hl HHO e
    go_enter Tryd.func60, Tryd.ntmps60
    go_wp2_with fail
    rw [← HW0.out]
    go_wp2_with fail
    obtain ⟨v0, hat0, hsz0, hnx0⟩ := HP0.out.put hB0 hB
    have HN0 := Lib.hid hnx0
    clear hnx0
    refine (bput_yes B p v0 _ 0 1 _ hat0 hsz0 (by omega) (by omega) (by have := HL0.out; omega)).mono ?_
    rintro e w1 ⟨rfl, hto⟩
    have HP1 := Lib.hid (HN0.out _ _ hto)
    clear hto hat0 hsz0 HN0
    obtain ⟨b1, hb1⟩ : ∃ l, l = bs ++ bitsN 0 1 := ⟨_, rfl⟩
    rw [← hb1] at HP1
    have HL1 : Hid (b1.length ≤ 900000000 + 1) := Lib.hid (by rw [hb1, List.length_append, bitsN_length]; have := HL0.out; omega)
    have HB1 := Lib.hid hb1
    clear hb1
    obtain ⟨hz0, hz1⟩ := HP1.out.wb.c
    obtain ⟨hy0, hy1⟩ := HP1.out.rb.c
    have hr0 := HP1.out.rb.f 0
    have hr1 := HP1.out.rb.f 1
    go_wp2
    refine win_end Tryd.results60 rfl rfl (HP1.out.rb.set f s) ⟨rfl, ?_⟩
    have := HP1.out.setr f s
    rw [HB1.out] at this
    unfold set2 at this
    simpa [bitsN] using this
  · rw [e]
    rw [decide_eq_true (And.intro h1 h2)] at HHO
    obtain ⟨hm1, hm2⟩ := mid_div f s x hx (by omega) h2
    have HMID : Hid (midB f s x = bitsN (x / 2 ^ (64 - f - s)) s) := Lib.hid rfl
    obtain ⟨M, hM⟩ : ∃ M, M = midB f s x := ⟨_, rfl⟩
    rw [← hM] at HMID ⊢
    obtain ⟨D, hD⟩ : ∃ D, D = 64 - f - s := ⟨_, rfl⟩
    have hbh := behind_any f s (by omega) (by omega)
    rw [show 64 - (f : Int) - (s : Int) = (D : Int) by omega] at hbh
    have HBH := Lib.hid hbh
    have hD63 : D ≤ 63 := by omega
    rw [← hD] at HMID hm1
    obtain ⟨Y, hY⟩ : ∃ Y, Y = x / 2 ^ D := ⟨_, rfl⟩
    have hsh : (x : Int) / 2 ^ D = (Y : Int) := by rw [hY]; simp
    rw [← hY] at HMID hm1
    have HYL := Lib.hid hm1
    have x0 : ((x : Int) == 0) = false := by simp; omega
    unfold winV at HHO HBH ⊢
    clear HW HT hp0 hw0 hhb hok hl h0 h1 h2 hm1 hm2 hM hD hbh hY e
    go_enter Tryd.func60, Tryd.ntmps60
    go_wp2_with fail
    rw [← HW0.out]
    go_wp2_with fail
    obtain ⟨v0, hat0, hsz0, hnx0⟩ := HP0.out.put hB0 hB
    have HN0 := Lib.hid hnx0
    clear hnx0
    refine (bput_yes B p v0 _ 1 1 _ hat0 hsz0 (by omega) (by omega) (by have := HL0.out; omega)).mono ?_
    rintro e w1 ⟨rfl, hto⟩
    have HP1 := Lib.hid (HN0.out _ _ hto)
    clear hto hat0 hsz0 HN0
    obtain ⟨b1, hb1⟩ : ∃ l, l = bs ++ bitsN 1 1 := ⟨_, rfl⟩
    rw [← hb1] at HP1
    have HL1 : Hid (b1.length ≤ 900000000 + 1) := Lib.hid (by rw [hb1, List.length_append, bitsN_length]; have := HL0.out; omega)
    have HB1 := Lib.hid hb1
    clear hb1
    obtain ⟨hz0, hz1⟩ := HP1.out.wb.c
    go_wp2_with fail
    refine (HHO.out _ HP1.out.tab).mono ?_
    rintro e w9 ⟨rfl, k9⟩
    have HP1 := Lib.hid (HP1.out.on k9)
    clear k9 hz0 hz1
    go_wp2_with fail
    obtain ⟨v1, hat1, hsz1, hnx1⟩ := HP1.out.put hB0 hB
    have HN1 := Lib.hid hnx1
    clear hnx1
    refine (bput_yes B p v1 _ 0 1 _ hat1 hsz1 (by omega) (by omega) (by have := HL1.out; omega)).mono ?_
    rintro e w2 ⟨rfl, hto⟩
    have HP2 := Lib.hid (HN1.out _ _ hto)
    clear hto hat1 hsz1 HN1
    obtain ⟨b2, hb2⟩ : ∃ l, l = b1 ++ bitsN 0 1 := ⟨_, rfl⟩
    rw [← hb2] at HP2
    have HL2 : Hid (b2.length ≤ 900000000 + 2) := Lib.hid (by rw [hb2, List.length_append, bitsN_length]; have := HL1.out; omega)
    have HB2 := Lib.hid hb2
    clear hb2
    have HSZ := Lib.hid (HP2.out.on (Kept.refl _ _).drew |>.wb.c)
    go_wp2
    refine AnyBut.start (S := fun w' => w'.cell? ⟨w.heap.size, 0, none⟩ = some (.int .i64 (f : Int)) ∧ w'.cell? ⟨w.heap.size, 1, none⟩ = some (.int .i64 (s : Int))) (k := 8) (by kernel_rfl) ?_
    refine AnyBut.takeS (i := 0) (v := ?v1) rfl (by kernel_rfl) (Nat.le_of_eq (by kernel_rfl)) (by kernel_rfl) (by kernel_rfl) (fun _ _ _ h => h) (HSZ.out) (Or.inl ⟨by kernel_rfl, ?hy1⟩) ?r1
    case hy1 =>
      intro w hSw
      try dsimp only at hSw
      go_simp
      try with_reducible rfl
    try simp only [Act.put, List.getElem_toArray, List.getElem_cons_zero, List.setIfInBounds_toArray, List.set_cons_zero, List.set_cons_succ]
    refine AnyBut.takeS (i := 1) (v := ?v2) rfl (by kernel_rfl) (Nat.le_of_eq (by kernel_rfl)) (by kernel_rfl) (by kernel_rfl) (fun _ _ _ h => h) (HSZ.out) (Or.inl ⟨by kernel_rfl, ?hy2⟩) ?r2
    case hy2 =>
      intro w hSw
      try dsimp only at hSw
      go_simp
      try with_reducible rfl
    try simp only [Act.put, List.getElem_toArray, List.getElem_cons_succ, List.getElem_cons_zero, List.setIfInBounds_toArray, List.set_cons_zero, List.set_cons_succ]
    refine AnyBut.takeS (i := 2) (v := ?v3) rfl (by kernel_rfl) (Nat.le_of_eq (by kernel_rfl)) (by kernel_rfl) (by kernel_rfl) (fun _ _ _ h => h) (HSZ.out) (Or.inl ⟨by kernel_rfl, ?hy3⟩) ?r3
    case hy3 =>
      intro w hSw
      try dsimp only at hSw
      go_simp
      try with_reducible rfl
    try simp only [Act.put, List.getElem_toArray, List.getElem_cons_succ, List.getElem_cons_zero, List.setIfInBounds_toArray, List.set_cons_zero, List.set_cons_succ]
    refine AnyBut.takeS (i := 5) (v := ?v4) rfl (by kernel_rfl) (Nat.le_of_eq (by kernel_rfl)) (by kernel_rfl) (by kernel_rfl) (fun _ _ _ h => h) (HSZ.out) (Or.inl ⟨by kernel_rfl, ?hy4⟩) ?r4
    case hy4 =>
      intro w hSw
      try dsimp only at hSw
      go_simp
      try with_reducible rfl
    try simp only [Act.put, List.getElem_toArray, List.getElem_cons_succ, List.getElem_cons_zero, List.setIfInBounds_toArray, List.set_cons_zero, List.set_cons_succ]
    refine AnyBut.takeS (i := 6) (v := ?v5) rfl (by kernel_rfl) (Nat.le_of_eq (by kernel_rfl)) (by kernel_rfl) (by kernel_rfl) (fun _ _ _ h => h) (HSZ.out) (Or.inl ⟨by kernel_rfl, ?hy5⟩) ?r5
    case hy5 =>
      intro w hSw
      try dsimp only at hSw
      go_simp
      try with_reducible rfl
    try simp only [Act.put, List.getElem_toArray, List.getElem_cons_succ, List.getElem_cons_zero, List.setIfInBounds_toArray, List.set_cons_zero, List.set_cons_succ]
    refine AnyBut.one (i := 3) (by kernel_rfl) rfl (fun K hK => ?_)
    go_simp
    go_wp2_with fail
    refine (HBH.out _).mono ?_
    rintro e wb ⟨rfl, kb⟩
    have HPB := Lib.hid (HP2.out.on ((Kept.refl _ _).drew.trans kb))
    clear kb
    go_wp2
    refine hK.out _ _ (HPB.out.wb.c) ?_
    clear hK K
    try simp only [Act.put, List.getElem_toArray, List.getElem_cons_succ, List.getElem_cons_zero, List.setIfInBounds_toArray, List.set_cons_zero, List.set_cons_succ]
    refine AnyBut.takeS (i := 4) (v := ?v6) rfl (by kernel_rfl) (Nat.le_of_eq (by kernel_rfl)) (by kernel_rfl) (by kernel_rfl) (fun _ _ _ h => h) (HPB.out.wb.c) (Or.inl ⟨by kernel_rfl, ?hy6⟩) ?r6
    case hy6 =>
      intro w hSw
      try dsimp only at hSw
      go_simp
      try with_reducible rfl
    try simp only [Act.put, List.getElem_toArray, List.getElem_cons_succ, List.getElem_cons_zero, List.setIfInBounds_toArray, List.set_cons_zero, List.set_cons_succ]
    refine AnyBut.one (i := 7) (by kernel_rfl) rfl (fun K hK => ?_)
    go_simp
    go_wp2_with fail
    obtain ⟨vz, hatz, hszz, hnxz⟩ := HPB.out.put hB0 hB
    have HNZ := Lib.hid hnxz
    clear hnxz
    refine (bput_yes B p vz _ Y s _ hatz hszz (by omega) HYL.out (by have := HL2.out; omega)).mono ?_
    rintro e wz ⟨rfl, hto⟩
    have HPZ := Lib.hid (HNZ.out _ _ hto)
    clear hto hatz hszz HNZ
    go_wp2
    refine hK.out _ _ (HPZ.out.wb.c) ?_
    clear hK K
    try simp only [Act.put, List.getElem_toArray, List.getElem_cons_succ, List.getElem_cons_zero, List.setIfInBounds_toArray, List.set_cons_zero, List.set_cons_succ]
    refine AnyBut.done (by kernel_rfl) ?_
    have hwz := HPZ.out.wb.c
    obtain ⟨hz0, hz1⟩ := hwz
    obtain ⟨hy0, hy1⟩ := HPZ.out.rb.c
    have hr0 := HPZ.out.rb.f 0
    have hr1 := HPZ.out.rb.f 1
    go_wp2
    refine win_end Tryd.results60 rfl rfl (HPZ.out.rb.set f s) ?_
    refine ⟨rfl, ?_⟩
    have := HPZ.out.setr f s
    rw [← HMID.out, HB2.out, HB1.out] at this
    unfold set2 at this
    simpa [bitsN] using this
  · rw [e]
    rw [decide_eq_false h1] at HHO
    have hin := new_in x hx h0
    have hmd := mid_div (newF x) (newS x) x hx (by omega) hin
    obtain ⟨hm1, hm2⟩ := hmd
    have HAR := Lib.hid fun w1 (h : BruTab w1) => xaround_any x hx h0 w1 h
    have HMID : Hid (midB (newF x) (newS x) x = bitsN (x / 2 ^ (64 - newF x - newS x)) (newS x)) := Lib.hid rfl
    obtain ⟨F, hF⟩ : ∃ F, F = newF x := ⟨_, rfl⟩
    obtain ⟨S, hS⟩ : ∃ F, F = newS x := ⟨_, rfl⟩
    rw [← hF, ← hS] at HMID HAR hm1 hn ⊢
    obtain ⟨M, hM⟩ : ∃ M, M = midB F S x := ⟨_, rfl⟩
    rw [← hM] at HMID ⊢
    obtain ⟨D, hD⟩ : ∃ D, D = 64 - F - S := ⟨_, rfl⟩
    have hbh := behind_any F S (by omega) (by omega)
    rw [show 64 - (F : Int) - (S : Int) = (D : Int) by omega] at hbh
    have HBH := Lib.hid hbh
    have hD63 : D ≤ 63 := by omega
    rw [← hD] at HMID hm1
    obtain ⟨Y, hY⟩ : ∃ Y, Y = x / 2 ^ D := ⟨_, rfl⟩
    have hsh : (x : Int) / 2 ^ D = (Y : Int) := by rw [hY]; simp
    rw [← hY] at HMID hm1
    have HYL := Lib.hid hm1
    have x0 : ((x : Int) == 0) = false := by simp; omega
    have t1 : IntKind.i64.wrap ((S : Int) - 1) = ((S - 1 : Nat) : Int) := by rw [IntWalk.i64_in _ ⟨by omega, by omega⟩]; omega
    have t2 : IntKind.u64.wrap ((S - 1 : Nat) : Int) = ((S - 1 : Nat) : Int) := by rw [IntKind.wrap_u64]; omega
    have t3 : IntKind.u64.wrap (F : Int) = (F : Int) := by rw [IntKind.wrap_u64]; omega
    have HW2 := Lib.hid (show 2 < w.heap.size by omega)
    obtain ⟨hn1, hn2, hn3⟩ := hn
    unfold winV at HHO HBH HAR ⊢
    clear HW HT hp0 hw0 hhb hok hl h0 h1 hm1 hm2 hM hD hbh hY e hin hF hS
    go_enter Tryd.func60, Tryd.ntmps60
    go_wp2_with fail
    rw [← HW0.out]
    go_wp2_with fail
    obtain ⟨v0, hat0, hsz0, hnx0⟩ := HP0.out.put hB0 hB
    have HN0 := Lib.hid hnx0
    clear hnx0
    refine (bput_yes B p v0 _ 1 1 _ hat0 hsz0 (by omega) (by omega) (by have := HL0.out; omega)).mono ?_
    rintro e w1 ⟨rfl, hto⟩
    have HP1 := Lib.hid (HN0.out _ _ hto)
    clear hto hat0 hsz0 HN0
    obtain ⟨b1, hb1⟩ : ∃ l, l = bs ++ bitsN 1 1 := ⟨_, rfl⟩
    rw [← hb1] at HP1
    have HL1 : Hid (b1.length ≤ 900000000 + 1) := Lib.hid (by rw [hb1, List.length_append, bitsN_length]; have := HL0.out; omega)
    have HB1 := Lib.hid hb1
    clear hb1
    obtain ⟨hz0, hz1⟩ := HP1.out.wb.c
    go_wp2_with fail
    refine (HHO.out _ HP1.out.tab).mono ?_
    rintro e w9 ⟨rfl, k9⟩
    have HPA := Lib.hid (HP1.out.on k9)
    clear k9 hz0 hz1
    go_wp2_with fail
    refine (HAR.out _ HPA.out.tab).mono ?_
    rintro e w8 ⟨rfl, k8⟩
    have HPB := Lib.hid (HPA.out.on k8)
    clear k8
    obtain ⟨hz0, hz1⟩ := HPB.out.wb.c
    have hf0 := HPB.out.wb.f 0
    have hf1 := HPB.out.wb.f 1
    have hpc := HPB.out.setq HW2.out (F : Int) (S : Int)
    obtain ⟨wc, hwc⟩ : ∃ w', w' = set2 w8 w.heap.size (.int .i64 (F : Int)) (.int .i64 (S : Int)) := ⟨_, rfl⟩
    rw [← hwc] at hpc
    unfold set2 at hwc
    have HWC := Lib.hid hwc
    have HP1 := Lib.hid hpc
    clear hwc hpc
    go_wp2_with fail
    rw [← HWC.out]
    clear hf0 hf1 hz0 hz1
    obtain ⟨v1, hat1, hsz1, hnx1⟩ := HP1.out.put hB0 hB
    have HN1 := Lib.hid hnx1
    clear hnx1
    refine (bput_yes B p v1 _ 1 1 _ hat1 hsz1 (by omega) (by omega) (by have := HL1.out; omega)).mono ?_
    rintro e w2 ⟨rfl, hto⟩
    have HP2 := Lib.hid (HN1.out _ _ hto)
    clear hto hat1 hsz1 HN1
    obtain ⟨b2, hb2⟩ : ∃ l, l = b1 ++ bitsN 1 1 := ⟨_, rfl⟩
    rw [← hb2] at HP2
    have HL2 : Hid (b2.length ≤ 900000000 + 2) := Lib.hid (by rw [hb2, List.length_append, bitsN_length]; have := HL1.out; omega)
    have HB2 := Lib.hid hb2
    clear hb2
    obtain ⟨hz0, hz1⟩ := HP2.out.wb.c
    go_wp2_with fail
    obtain ⟨v2, hat2, hsz2, hnx2⟩ := HP2.out.put hB0 hB
    have HN2 := Lib.hid hnx2
    clear hnx2
    refine (bput_yes B p v2 _ F 5 _ hat2 hsz2 (by omega) (by omega) (by have := HL2.out; omega)).mono ?_
    rintro e w3 ⟨rfl, hto⟩
    have HP3 := Lib.hid (HN2.out _ _ hto)
    clear hto hat2 hsz2 HN2
    obtain ⟨b3, hb3⟩ : ∃ l, l = b2 ++ bitsN F 5 := ⟨_, rfl⟩
    rw [← hb3] at HP3
    have HL3 : Hid (b3.length ≤ 900000000 + 7) := Lib.hid (by rw [hb3, List.length_append, bitsN_length]; have := HL2.out; omega)
    have HB3 := Lib.hid hb3
    clear hb3
    clear hz0 hz1
    obtain ⟨hz0, hz1⟩ := HP3.out.wb.c
    go_wp2_with fail
    obtain ⟨v3, hat3, hsz3, hnx3⟩ := HP3.out.put hB0 hB
    have HN3 := Lib.hid hnx3
    clear hnx3
    refine (bput_yes B p v3 _ (S - 1) 6 _ hat3 hsz3 (by omega) (by omega) (by have := HL3.out; omega)).mono ?_
    rintro e w4 ⟨rfl, hto⟩
    have HP4 := Lib.hid (HN3.out _ _ hto)
    clear hto hat3 hsz3 HN3
    obtain ⟨b4, hb4⟩ : ∃ l, l = b3 ++ bitsN (S - 1) 6 := ⟨_, rfl⟩
    rw [← hb4] at HP4
    have HL4 : Hid (b4.length ≤ 900000000 + 13) := Lib.hid (by rw [hb4, List.length_append, bitsN_length]; have := HL3.out; omega)
    have HB4 := Lib.hid hb4
    clear hb4
    clear hz0 hz1
    have HSZ := Lib.hid (HP4.out.on (Kept.refl _ _).drew |>.wb.c)
    go_wp2
    refine AnyBut.start (S := fun w' => w'.cell? ⟨w.heap.size, 0, none⟩ = some (.int .i64 (F : Int)) ∧ w'.cell? ⟨w.heap.size, 1, none⟩ = some (.int .i64 (S : Int))) (k := 8) (by kernel_rfl) ?_
    refine AnyBut.takeS (i := 0) (v := ?v7) rfl (by kernel_rfl) (Nat.le_of_eq (by kernel_rfl)) (by kernel_rfl) (by kernel_rfl) (fun _ _ _ h => h) (HSZ.out) (Or.inl ⟨by kernel_rfl, ?hy7⟩) ?r7
    case hy7 =>
      intro w hSw
      try dsimp only at hSw
      go_simp
      try with_reducible rfl
    try simp only [Act.put, List.getElem_toArray, List.getElem_cons_zero, List.setIfInBounds_toArray, List.set_cons_zero, List.set_cons_succ]
    refine AnyBut.takeS (i := 1) (v := ?v8) rfl (by kernel_rfl) (Nat.le_of_eq (by kernel_rfl)) (by kernel_rfl) (by kernel_rfl) (fun _ _ _ h => h) (HSZ.out) (Or.inl ⟨by kernel_rfl, ?hy8⟩) ?r8
    case hy8 =>
      intro w hSw
      try dsimp only at hSw
      go_simp
      try with_reducible rfl
    try simp only [Act.put, List.getElem_toArray, List.getElem_cons_succ, List.getElem_cons_zero, List.setIfInBounds_toArray, List.set_cons_zero, List.set_cons_succ]
    refine AnyBut.takeS (i := 2) (v := ?v9) rfl (by kernel_rfl) (Nat.le_of_eq (by kernel_rfl)) (by kernel_rfl) (by kernel_rfl) (fun _ _ _ h => h) (HSZ.out) (Or.inl ⟨by kernel_rfl, ?hy9⟩) ?r9
    case hy9 =>
      intro w hSw
      try dsimp only at hSw
      go_simp
      try with_reducible rfl
    try simp only [Act.put, List.getElem_toArray, List.getElem_cons_succ, List.getElem_cons_zero, List.setIfInBounds_toArray, List.set_cons_zero, List.set_cons_succ]
    refine AnyBut.takeS (i := 5) (v := ?v10) rfl (by kernel_rfl) (Nat.le_of_eq (by kernel_rfl)) (by kernel_rfl) (by kernel_rfl) (fun _ _ _ h => h) (HSZ.out) (Or.inl ⟨by kernel_rfl, ?hy10⟩) ?r10
    case hy10 =>
      intro w hSw
      try dsimp only at hSw
      go_simp
      try with_reducible rfl
    try simp only [Act.put, List.getElem_toArray, List.getElem_cons_succ, List.getElem_cons_zero, List.setIfInBounds_toArray, List.set_cons_zero, List.set_cons_succ]
    refine AnyBut.takeS (i := 6) (v := ?v11) rfl (by kernel_rfl) (Nat.le_of_eq (by kernel_rfl)) (by kernel_rfl) (by kernel_rfl) (fun _ _ _ h => h) (HSZ.out) (Or.inl ⟨by kernel_rfl, ?hy11⟩) ?r11
    case hy11 =>
      intro w hSw
      try dsimp only at hSw
      go_simp
      try with_reducible rfl
    try simp only [Act.put, List.getElem_toArray, List.getElem_cons_succ, List.getElem_cons_zero, List.setIfInBounds_toArray, List.set_cons_zero, List.set_cons_succ]
    refine AnyBut.one (i := 3) (by kernel_rfl) rfl (fun K hK => ?_)
    go_simp
    go_wp2_with fail
    refine (HBH.out _).mono ?_
    rintro e wb ⟨rfl, kb⟩
    have HPB := Lib.hid (HP4.out.on ((Kept.refl _ _).drew.trans kb))
    clear kb
    go_wp2
    refine hK.out _ _ (HPB.out.wb.c) ?_
    clear hK K
    try simp only [Act.put, List.getElem_toArray, List.getElem_cons_succ, List.getElem_cons_zero, List.setIfInBounds_toArray, List.set_cons_zero, List.set_cons_succ]
    refine AnyBut.takeS (i := 4) (v := ?v12) rfl (by kernel_rfl) (Nat.le_of_eq (by kernel_rfl)) (by kernel_rfl) (by kernel_rfl) (fun _ _ _ h => h) (HPB.out.wb.c) (Or.inl ⟨by kernel_rfl, ?hy12⟩) ?r12
    case hy12 =>
      intro w hSw
      try dsimp only at hSw
      go_simp
      try with_reducible rfl
    try simp only [Act.put, List.getElem_toArray, List.getElem_cons_succ, List.getElem_cons_zero, List.setIfInBounds_toArray, List.set_cons_zero, List.set_cons_succ]
    refine AnyBut.one (i := 7) (by kernel_rfl) rfl (fun K hK => ?_)
    go_simp
    go_wp2_with fail
    obtain ⟨vz, hatz, hszz, hnxz⟩ := HPB.out.put hB0 hB
    have HNZ := Lib.hid hnxz
    clear hnxz
    refine (bput_yes B p vz _ Y S _ hatz hszz (by omega) HYL.out (by have := HL4.out; omega)).mono ?_
    rintro e wz ⟨rfl, hto⟩
    have HPZ := Lib.hid (HNZ.out _ _ hto)
    clear hto hatz hszz HNZ
    go_wp2
    refine hK.out _ _ (HPZ.out.wb.c) ?_
    clear hK K
    try simp only [Act.put, List.getElem_toArray, List.getElem_cons_succ, List.getElem_cons_zero, List.setIfInBounds_toArray, List.set_cons_zero, List.set_cons_succ]
    refine AnyBut.done (by kernel_rfl) ?_
    have hwz := HPZ.out.wb.c
    obtain ⟨hz0, hz1⟩ := hwz
    obtain ⟨hy0, hy1⟩ := HPZ.out.rb.c
    have hr0 := HPZ.out.rb.f 0
    have hr1 := HPZ.out.rb.f 1
    go_wp2
    refine win_end Tryd.results60 rfl rfl (HPZ.out.rb.set F S) ?_
    refine ⟨rfl, ?_⟩
    have := HPZ.out.setr F S
    rw [← HMID.out, HB4.out, HB3.out, HB2.out, HB1.out] at this
    unfold set2 at this
    simpa [bitsN] using this
end Go.Proofs.YtaagjedkojlbpaaDoor
