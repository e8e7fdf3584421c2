/- Layer 23: clone; a net in memory; New, has, Len, Look. -/
import Derived.Test.YtkidbbmdlmnokaaU2
namespace Go.Proofs.Ytkidbbmdlmnokaa
open Go.RowKit
attribute [local go_sem ↓] Go.wp_at_zero Go.wp_at_succ

set_option maxHeartbeats 2000000 in
theorem mclone_any (ack : Bool) (hv : Int) (a : Option Addr) (n c : Nat) (b : List Int) (hn : b.length = n) (w : World) (hs : SlAt w (.slice a n c) (u8s b)) (hl : n ≤ 1000000000) :
    Calls Try.prog 74 #[.agg #[.bool ack, .int .i64 hv, .slice a n c]] w fun e w' => ∃ a' c', e = .returned (.agg #[.bool ack, .int .i64 hv, .slice a' n c']) ∧ Mine w w' 5 (.slice a' n c') (u8s b) := by
  obtain ⟨wa, hwa⟩ : ∃ wa, wa = w.alloc (.cells #[.bool ack, .int .i64 hv, .slice a n c] 29) := ⟨_, rfl⟩
  obtain ⟨q1, hq1⟩ : ∃ q, q = w.heap.size := ⟨_, rfl⟩
  obtain ⟨wb, hwb⟩ : ∃ wb, wb = wa.alloc (.cells #[.bool false, .int .i64 0, .slice none 0 0] 29) := ⟨_, rfl⟩
  obtain ⟨q2, hq2⟩ : ∃ q, q = wa.heap.size := ⟨_, rfl⟩
  have ka : Kept (fun _ => False) w wa := by rw [hwa]; exact (Kept.refl _ _).alloc _
  have kb : Kept (fun _ => False) wa wb := by rw [hwb]; exact (Kept.refl _ _).alloc _
  have HB1 : Hid (MB wb q1 ack hv (.slice a n c)) := Lib.hid (kb.same (show MB wa q1 ack hv (.slice a n c) by rw [hwa, hq1]; exact heap_alloc_new w _) (fun x => x))
  have HB2 : Hid (MB wb q2 false 0 (.slice none 0 0)) := Lib.hid (by rw [hwb, hq2]; exact heap_alloc_new wa _)
  have hq2' : q2 = q1 + 1 := by rw [hq2, hwa, hq1]; exact Array.size_push ..
  have HW := Lib.hid (show (w.alloc (.cells #[.bool ack, .int .i64 hv, .slice a n c] 29)).alloc (.cells #[.bool false, .int .i64 0, .slice none 0 0] 29) = wb by rw [hwb, hwa])
  have HQ := Lib.hid (And.intro hq1 hq2')
  have HK := Lib.hid (ka.trans kb)
  have HC := Lib.hid (bclone_any a n c b hn wb (hs.kept (ka.trans kb) (fun _ _ x => x)) hl)
  obtain ⟨b10, b11, b12⟩ := HB1.out.c
  clear hwa hwb hq1 hq2 hq2' ka kb hs hn hl
  go_enter Try.func74, Try.ntmps74
  go_upto_region 1 with fail
  rw [HW.out, ← HQ.out.1, ← HQ.out.2]
  go_wp2_with fail
  refine HC.out.mono ?_
  rintro e w3 ⟨a', c', rfl, hm⟩
  have HM := Lib.hid hm
  have HB13 : Hid (MB w3 q1 ack hv (.slice a n c)) := Lib.hid (hm.kept.same HB1.out (fun x => x))
  have HB23 : Hid (MB w3 q2 false 0 (.slice none 0 0)) := Lib.hid (hm.kept.same HB2.out (fun x => x))
  clear hm b10 b11 b12
  have d2 := HB13.out.c.2.2
  have f2 := HB13.out.fz 2
  go_upto_region 2 with fail
  clear d2 f2
  obtain ⟨w4, hw4⟩ : ∃ w4, w4 = w3.setCell ⟨q1, 2, none⟩ (.slice a' n c') := ⟨_, rfl⟩
  rw [← hw4]
  have k34 : Kept (fun k => k = q1) w3 w4 := by rw [hw4]; exact (Kept.refl (fun k => k = q1) w3).setCell (p := ⟨q1, 2, none⟩) (fun _ => rfl) _
  have HB14 : Hid (MB w4 q1 ack hv (.slice a' n c')) := Lib.hid (by rw [hw4]; exact HB13.out.set2 _)
  have HB24 : Hid (MB w4 q2 false 0 (.slice none 0 0)) := Lib.hid (k34.same HB23.out (fun e => by have := HQ.out.2; omega))
  have HM4 : Hid (Mine w w4 5 (.slice a' n c') (u8s b)) := Lib.hid ((HM.out.down HK.out).keptS k34 (fun j hj e => own_ne_box HM.out.own HB13.out (by decide) (e ▸ hj)) (fun j e => by rw [e, HQ.out.1]; exact Nat.le_refl _))
  clear hw4 k34
  obtain ⟨b10, b11, b12⟩ := HB14.out.c
  obtain ⟨b20, b21, b22⟩ := HB24.out.c
  have f0 := HB24.out.fz 0
  have f1 := HB24.out.fz 1
  have f2 := HB24.out.fz 2
  go_wp2
  try simp only [Exit.inBlock, Exit.then]
  refine msg_end Try.results74 rfl rfl (HB24.out.set3 ack hv (.slice a' n c')) ?_
  exact ⟨a', c', rfl, HM4.out.keptS (set3_keptM _ _ _ _ _) (fun j hj e => own_ne_box HM4.out.own HB24.out (by decide) (e ▸ hj)) (fun j e => by rw [e]; have := HQ.out; omega)⟩

/-- A net in memory: its block, its row, its messages' bytes. -/
structure NS (W w : World) (nb : Nat) (L : List Mg) (ao : Option Addr) (cp : Nat) : Prop where
  box : w.heap[nb]? = some (.cells #[.slice ao L.length cp] 100 (0, 0))
  row : MineG cellsM 3 29 W w (.slice ao L.length cp) L
  data : ∀ m ∈ L, m.At w
  typ : ∀ m ∈ L, ∀ k, m.v.ownBlock = some k → ∃ cs fr, w.heap[k]? = some (.cells cs 5 fr)
  byte : ∀ m ∈ L, (∀ x ∈ m.b, 0 ≤ x ∧ x < 256) ∧ rightB m.t = true
  base : W.heap.size ≤ nb
theorem right_len {m : Tl} (h : rightB m = true) : m.b.length ≤ 65536 := by
  unfold rightB at h
  split at h
  · have := of_decide_eq_true h; omega
  · have := of_decide_eq_true h; omega
section
variable {W w w' : World} {nb cp : Nat} {L : List Mg} {ao : Option Addr}
theorem NS.kept (h : NS W w nb L ao cp) (k : Kept (fun _ => False) w w') : NS W w' nb L ao cp :=
  ⟨k.same h.box (fun x => x), h.row.on k, fun m hm => (h.data m hm).kept k, fun m hm j e => by
    obtain ⟨cs, fr, hc⟩ := h.typ m hm j e
    exact ⟨cs, fr, k.same hc (fun x => x)⟩, h.byte, h.base⟩
theorem NS.cell (h : NS W w nb L ao cp) : w.cell? ⟨nb, 0, none⟩ = some (.slice ao L.length cp) := cell_of_one h.box
theorem NS.free (h : NS W w nb L ao cp) : w.frozen? ⟨nb, 0, none⟩ = false := free_of_one h.box
theorem NS.at_ (h : NS W w nb L ao cp) {i : Nat} {m : Mg} (hi : L[i]? = some m) : ∃ g, ao = some ⟨g, 0, none⟩ ∧ w.cell? ⟨g, i * 3, none⟩ = some (.bool m.ack) ∧ w.cell? ⟨g, i * 3 + 1, none⟩ = some (.int .i64 m.have_) ∧ w.cell? ⟨g, i * 3 + 2, none⟩ = some (.slice m.a m.b.length m.c) := by
  have hj := (List.getElem?_eq_some_iff.1 hi).1
  rcases h.row.own.2 with ⟨e, h0⟩ | ⟨g, cap, cur, e, _⟩
  · omega
  · injection e with e1 e2 e3
    obtain ⟨g', o', e4, hc⟩ := h.row.at_ cfM (by omega)
    rw [e1] at e4
    injection e4 with e4
    injection e4 with e5 e6
    subst e5 e6
    refine ⟨g, e1, ?_, ?_, ?_⟩
    · have := hc i m hi 0 (.bool m.ack) rfl
      simpa using this
    · have := hc i m hi 1 (.int .i64 m.have_) rfl
      simpa using this
    · have := hc i m hi 2 (.slice m.a m.b.length m.c) rfl
      simpa using this
end
def hasB (L : List Mg) (i : Int) : Bool := decide (0 ≤ i ∧ i < (L.length : Int))
theorem netNew_any (w : World) : Calls Try.prog 14 #[] w fun e w' => ∃ nb, e = .returned (.pointer (some ⟨nb, 0, none⟩)) ∧ NS w w' nb [] none 0 ∧ Kept (fun _ => False) w w' := by
  have hb := heap_alloc_new w (.cells #[.slice none 0 0] 100 (0, 0))
  have HB := Lib.hid hb
  clear hb
  go_enter Try.func14, Try.ntmps14
  go_wp2
  go_ret
  exact ⟨_, rfl, ⟨HB.out, MineG.nil ((Kept.refl _ _).alloc _), by simp, by simp, by simp, Nat.le_refl _⟩, (Kept.refl _ _).alloc _⟩
theorem netLen_any (W : World) (nb : Nat) (L : List Mg) (ao : Option Addr) (cp : Nat) (w : World) (h : NS W w nb L ao cp) : Calls Try.prog 24 #[.pointer (some ⟨nb, 0, none⟩)] w fun e w' => e = .returned (.int .i64 (L.length : Int)) ∧ w = w' := by
  have c0 := h.cell
  clear h
  go_enter Try.func24, Try.ntmps24
  go_wp2
  go_ret
  exact ⟨rfl, rfl⟩
set_option maxHeartbeats 1000000 in
theorem netHas_any (W : World) (nb : Nat) (L : List Mg) (ao : Option Addr) (cp : Nat) (i : Int) (w : World) (h : NS W w nb L ao cp) : Calls Try.prog 76 #[.pointer (some ⟨nb, 0, none⟩), .int .i64 i] w fun e w' => e = .returned (.bool (hasB L i)) ∧ w = w' := by
  have c0 := h.cell
  clear h
  by_cases h0 : 0 ≤ i
  · have q0 : decide ((0 : Int) ≤ i) = true := decide_eq_true h0
    by_cases h1 : i < (L.length : Int)
    · have HX : Hid (hasB L i = true) := Lib.hid (decide_eq_true ⟨h0, h1⟩)
      have q1 : decide (i < (L.length : Int)) = true := decide_eq_true h1
      go_enter Try.func76, Try.ntmps76
      go_wp2
      go_ret
      exact ⟨by rw [HX.out]; rfl, rfl⟩
    · have HX : Hid (hasB L i = false) := Lib.hid (decide_eq_false (fun e => h1 e.2))
      have q1 : decide (i < (L.length : Int)) = false := decide_eq_false h1
      go_enter Try.func76, Try.ntmps76
      go_wp2
      go_ret
      exact ⟨by rw [HX.out]; rfl, rfl⟩
  · have HX : Hid (hasB L i = false) := Lib.hid (decide_eq_false (fun e => h0 e.1))
    have q0 : decide ((0 : Int) ≤ i) = false := decide_eq_false h0
    go_enter Try.func76, Try.ntmps76
    go_wp2
    go_ret
    exact ⟨by rw [HX.out]; rfl, rfl⟩
/-- What a place tells. -/
def lookT (L : List Mg) (i : Int) : Tl := if hasB L i = true then (L.getD i.toNat ⟨false, 0, none, 0, []⟩).t else ⟨false, 0, []⟩
/-- What Look answers: a message in new memory. -/
def LookTo (w : World) (L : List Mg) (i : Int) (e : Ending) (w' : World) : Prop := ∃ x : Mg, e = .returned (.tuple #[.agg #[.bool x.ack, .int .i64 x.have_, .slice x.a x.b.length x.c], .bool (hasB L i)]) ∧ x.t = lookT L i ∧ Mine w w' 5 (.slice x.a x.b.length x.c) (u8s x.b)
set_option maxHeartbeats 2000000 in
theorem netLook_any (W : World) (nb : Nat) (L : List Mg) (ao : Option Addr) (cp : Nat) (i : Int) (w : World) (h : NS W w nb L ao cp) :
    Calls Try.prog 23 #[.pointer (some ⟨nb, 0, none⟩), .int .i64 i] w (LookTo w L i) := by
  obtain ⟨wa, hwa⟩ : ∃ wa, wa = w.alloc (.cells #[.bool false, .int .i64 0, .slice none 0 0] 29) := ⟨_, rfl⟩
  obtain ⟨q4, hq4⟩ : ∃ q, q = w.heap.size := ⟨_, rfl⟩
  have ka : Kept (fun _ => False) w wa := by rw [hwa]; exact (Kept.refl _ _).alloc _
  have HB4 : Hid (MB wa q4 false 0 (.slice none 0 0)) := Lib.hid (by rw [hwa, hq4]; exact heap_alloc_new w _)
  have HN := Lib.hid (h.kept ka)
  have HH := Lib.hid (netHas_any W nb L ao cp i wa HN.out)
  have HK := Lib.hid ka
  have HW := Lib.hid (And.intro hwa hq4)
  clear hwa hq4 ka h
  by_cases hi : hasB L i = true
  · obtain ⟨j, rfl⟩ : ∃ j : Nat, i = (j : Int) := ⟨i.toNat, by have := of_decide_eq_true hi; omega⟩
    have hj : j < L.length := by have := of_decide_eq_true hi; omega
    have hg := List.getElem?_eq_getElem hj
    have HX : Hid (lookT L (j : Int) = L[j].t) := Lib.hid (by unfold lookT; rw [if_pos hi, Int.toNat_natCast, List.getD_eq_getElem?_getD, hg]; rfl)
    have hmem := List.getElem_mem hj
    obtain ⟨m, hm⟩ : ∃ m, m = L[j] := ⟨_, rfl⟩
    rw [← hm] at hg HX hmem
    have hr := right_len (HN.out.byte m hmem).2
    have HCL := Lib.hid (mclone_any m.ack m.have_ m.a m.b.length m.c m.b rfl wa (HN.out.data m hmem) (by have : m.b.length ≤ 65536 := hr; omega))
    obtain ⟨g, hao, cA, cH, cV⟩ := HN.out.at_ hg
    have cN := HN.out.cell
    subst hao
    rw [hi] at HH
    have HI := Lib.hid hi
    obtain ⟨mk, mh, ma, mc, mb⟩ := m
    dsimp only at cA cH cV HCL
    obtain ⟨nn, hnn⟩ : ∃ nn, nn = mb.length := ⟨_, rfl⟩
    rw [← hnn] at cV HCL
    have HNN := Lib.hid hnn
    have hjl : (j : Int) < (L.length : Int) := by omega
    have hj0 : (0 : Int) ≤ (j : Int) := by omega
    clear hi hg hmem hm hr hnn hj
    go_enter Try.func23, Try.ntmps23
    go_upto_region 1 with fail
    rw [← HW.out.1, ← HW.out.2]
    go_wp2_with fail
    refine HH.out.mono ?_
    rintro e w2 ⟨rfl, rfl⟩
    go_wp2_with fail
    refine HCL.out.mono ?_
    rintro e w3 ⟨a', c', rfl, hm⟩
    have HM := Lib.hid hm
    have HB : Hid (MB w3 q4 false 0 (.slice none 0 0)) := Lib.hid (hm.kept.same HB4.out (fun x => x))
    clear hm cA cH cV cN
    obtain ⟨b20, b21, b22⟩ := HB.out.c
    have f0 := HB.out.fz 0
    have f1 := HB.out.fz 1
    have f2 := HB.out.fz 2
    go_wp2
    try simp only [Exit.inBlock, Exit.then]
    refine msg_end2 Try.results23 rfl rfl rfl (HB.out.set3 mk mh (.slice a' nn c')) ?_
    refine ⟨⟨mk, mh, a', c', mb⟩, by rw [HI.out]; dsimp only; rw [← HNN.out]; rfl, by rw [HX.out]; rfl, ?_⟩
    dsimp only
    rw [← HNN.out]
    exact (HM.out.down HK.out).keptS (set3_keptM _ _ _ _ _) (fun j hj e => own_ne_box HM.out.own HB.out (by decide) (e ▸ hj)) (fun j e => by rw [e]; have := HW.out.2; omega)
  · have hi : hasB L i = false := by simpa using hi
    have HX : Hid (lookT L i = ⟨false, 0, []⟩) := Lib.hid (if_neg (by rw [hi]; decide))
    rw [hi] at HH
    have HI := Lib.hid hi
    obtain ⟨b20, b21, b22⟩ := HB4.out.c
    have f0 := HB4.out.fz 0
    have f1 := HB4.out.fz 1
    have f2 := HB4.out.fz 2
    clear hi
    go_enter Try.func23, Try.ntmps23
    go_upto_region 1 with fail
    rw [← HW.out.1, ← HW.out.2]
    go_wp2_with fail
    refine HH.out.mono ?_
    rintro e w2 ⟨rfl, rfl⟩
    go_wp2
    try simp only [Exit.inBlock, Exit.then]
    refine msg_end2 Try.results23 rfl rfl rfl (HB4.out.set3 false 0 (.slice none 0 0)) ?_
    refine ⟨⟨false, 0, none, 0, []⟩, by rw [HI.out]; rfl, by rw [HX.out]; rfl, ?_⟩
    exact Mine.nil' _ (HK.out.newer (set3_keptM _ _ _ _ _) (fun j e => by rw [e]; have := HW.out.2; omega))
end Go.Proofs.Ytkidbbmdlmnokaa
