/- Layer 23: Take, Double. -/
import Derived.Test.YtkidbbmdlmnokaaU5
namespace Go.Proofs.Ytkidbbmdlmnokaa
open Go.RowKit
attribute [local go_sem ↓] Go.wp_at_zero Go.wp_at_succ

/-- A net stays beside blocks that are none of its own. -/
theorem NS.beside {S : Nat → Prop} {W w w' : World} {nb cp : Nat} {L : List Mg} {ao : Option Addr} (h : NS W w nb L ao cp) (k : Kept S w w')
    (hS : ∀ j, S j → W.heap.size ≤ j ∧ (∀ m ∈ L, m.v.ownBlock ≠ some j) ∧ j ≠ nb ∧ (Value.slice ao L.length cp).ownBlock ≠ some j) : NS W w' nb L ao cp :=
  ⟨k.same h.box (fun e => (hS nb e).2.2.1 rfl), h.row.keptS k (fun j e1 e2 => (hS j e2).2.2.2 e1) (fun j e => (hS j e).1), fun m hm => SlAt.kept (h.data m hm) k (fun j e1 e2 => (hS j e2).2.1 m hm e1), fun m hm j e => by
    obtain ⟨cs, fr, h1⟩ := h.typ m hm j e
    exact ⟨cs, fr, k.same h1 (fun e2 => (hS j e2).2.1 m hm e)⟩, h.byte, h.base⟩
theorem typ_ne {w : World} {j : Nat} {cs : Array Value} {T : TypeId} {fr : Nat × Nat} {m : Mg} (ht : ∀ k, m.v.ownBlock = some k → ∃ cs fr, w.heap[k]? = some (.cells cs 5 fr)) (hj : w.heap[j]? = some (.cells cs T fr)) (hT : T ≠ 5) : m.v.ownBlock ≠ some j := by
  intro e
  obtain ⟨cs', fr', h1⟩ := ht j e
  rw [hj] at h1
  injection h1 with h1
  injection h1 with _ h1
  exact hT h1
theorem box_ne {w : World} {i j : Nat} {cs cs' : Array Value} {T T' : TypeId} {fr fr' : Nat × Nat} (hi : w.heap[i]? = some (.cells cs T fr)) (hj : w.heap[j]? = some (.cells cs' T' fr')) (hT : T ≠ T') : i ≠ j := by
  intro e
  subst e
  rw [hj] at hi
  injection hi with hi
  injection hi with _ hi
  exact hT hi.symm
/-- The net has one message more. -/
def GrewTo (W w : World) (nb : Nat) (L : List Mg) (ao : Option Addr) (cp : Nat) (t : Tl) (w' : World) : Prop :=
  ∃ m ao' cp', m.t = t ∧ NS W w' nb (L ++ [m]) ao' cp' ∧ (∀ k, m.v.ownBlock = some k → w.heap.size ≤ k) ∧ Kept (fun k => k = nb ∨ (Value.slice ao L.length cp).ownBlock = some k) w w' ∧
    ((Value.slice ao' (L ++ [m]).length cp').ownBlock = (Value.slice ao L.length cp).ownBlock ∨ ∃ k, (Value.slice ao' (L ++ [m]).length cp').ownBlock = some k ∧ w.heap.size ≤ k)
theorem SendTo.parts {W w w' : World} {nb cp : Nat} {L : List Mg} {ao : Option Addr} {t : Tl} {e : Ending} (h : SendTo W w nb L ao cp t e w') : e = .returned (.bool (sendB L t)) ∧ (sendB L t = false → Kept (fun _ => False) w w') ∧ (sendB L t = true → GrewTo W w nb L ao cp t w') := h
/-- What is left behind Take. -/
def takeL (L : List Mg) (i : Int) : List Mg := if hasB L i = true then L.eraseIdx i.toNat else L
def TakeTo (W w : World) (nb : Nat) (L : List Mg) (ao : Option Addr) (cp : Nat) (i : Int) (e : Ending) (w' : World) : Prop :=
  ∃ x : Mg, e = .returned (.tuple #[.agg #[.bool x.ack, .int .i64 x.have_, .slice x.a x.b.length x.c], .bool (hasB L i)]) ∧ x.t = lookT L i ∧ x.At w' ∧ NS W w' nb (takeL L i) ao cp ∧ Kept (fun k => k = nb ∨ (Value.slice ao L.length cp).ownBlock = some k) w w'
set_option maxHeartbeats 4000000 in
set_option maxRecDepth 100000 in
theorem netTake_any (W : World) (nb : Nat) (L : List Mg) (ao : Option Addr) (cp : Nat) (i : Int) (w : World) (h : NS W w nb L ao cp) (hl : L.length ≤ 1000000) :
    Calls Try.prog 17 #[.pointer (some ⟨nb, 0, none⟩), .int .i64 i] w (TakeTo W w nb L ao cp i) := by
  obtain ⟨wa, hwa⟩ : ∃ wa, wa = w.alloc (.cells #[.bool false, .int .i64 0, .slice none 0 0] 29) := ⟨_, rfl⟩
  obtain ⟨q4, hq4⟩ : ∃ q, q = w.heap.size := ⟨_, rfl⟩
  have ka : Kept (fun _ => False) w wa := by rw [hwa]; exact (Kept.refl _ _).alloc _
  have HB4 : Hid (MB wa q4 false 0 (.slice none 0 0)) := Lib.hid (by rw [hwa, hq4]; exact heap_alloc_new w _)
  have HN := Lib.hid (h.kept ka)
  have HLK := Lib.hid (netLook_any W nb L ao cp i wa HN.out)
  have HK := Lib.hid ka
  have HW := Lib.hid (And.intro hwa hq4)
  have HN0 := Lib.hid h
  have HLL := Lib.hid hl
  clear hwa hq4 ka h hl
  go_enter Try.func17, Try.ntmps17
  go_upto_region 1 with fail
  rw [← HW.out.1, ← HW.out.2]
  go_wp2_with fail
  refine HLK.out.mono ?_
  rintro e w1 ⟨⟨xk, xh, xa, xc, xb⟩, rfl, hxt, hxm⟩
  dsimp only at hxm ⊢
  obtain ⟨n, hn⟩ : ∃ n, n = xb.length := ⟨_, rfl⟩
  rw [← hn] at hxm ⊢
  have HNN := Lib.hid hn
  have HXT := Lib.hid hxt
  have HXM := Lib.hid hxm
  obtain ⟨w2, hw2⟩ : ∃ w2, w2 = w1.alloc (.cells #[.bool xk, .int .i64 xh, .slice xa n xc] 29) := ⟨_, rfl⟩
  obtain ⟨q6, hq6⟩ : ∃ q, q = w1.heap.size := ⟨_, rfl⟩
  have k12 : Kept (fun _ => False) w1 w2 := by rw [hw2]; exact (Kept.refl _ _).alloc _
  have HB6 : Hid (MB w2 q6 xk xh (.slice xa n xc)) := Lib.hid (by rw [hw2, hq6]; exact heap_alloc_new w1 _)
  have HB42 : Hid (MB w2 q4 false 0 (.slice none 0 0)) := Lib.hid (k12.same (hxm.kept.same HB4.out (fun x => x)) (fun x => x))
  have HN2 := Lib.hid ((HN.out.kept hxm.kept).kept k12)
  have HK2 := Lib.hid (HK.out.trans (hxm.kept.trans k12))
  have HXA : Hid ((⟨xk, xh, xa, xc, xb⟩ : Mg).At w2 ∧ ∀ k, (⟨xk, xh, xa, xc, xb⟩ : Mg).v.ownBlock = some k → ∃ cs fr, w2.heap[k]? = some (.cells cs 5 fr)) := Lib.hid ⟨by
      unfold Mg.At; dsimp only; rw [← hn]; exact hxm.at_.kept k12 (fun _ _ x => x), fun k e => by
      unfold Mg.v at e; dsimp only at e; rw [← hn] at e
      obtain ⟨cur, hc⟩ := ownsRow_block hxm.own e
      exact ⟨_, _, k12.same hc (fun x => x)⟩⟩
  have HW2 := Lib.hid (And.intro hw2 hq6)
  have HQ := Lib.hid (show w.heap.size ≤ q4 ∧ w.heap.size ≤ q6 ∧ q4 ≠ q6 by
    have h1 := HW.out.2
    have h2 := HK.out.size
    have h3 := hxm.kept.size
    have h4 := HB4.out.lt
    refine ⟨by omega, by omega, by omega⟩)
  clear hxm hxt hn hw2 hq6 k12
  go_upto_region 2 with fail
  rw [← HW2.out.1, ← HW2.out.2]
  obtain ⟨B, hB⟩ : ∃ B, B = hasB L i := ⟨_, rfl⟩
  rw [← hB]
  have HBB := Lib.hid hB
  clear hB
  cases B with
  | false =>
    obtain ⟨b10, b11, b12⟩ := HB6.out.c
    obtain ⟨b20, b21, b22⟩ := HB42.out.c
    have f0 := HB42.out.fz 0
    have f1 := HB42.out.fz 1
    have f2 := HB42.out.fz 2
    go_wp2
    try simp only [Exit.inBlock, Exit.then]
    refine msg_end2 Try.results17 rfl rfl rfl (HB42.out.set3 xk xh (.slice xa n xc)) ?_
    have k3 := set3_keptM w2 q4 (.bool xk) (.int .i64 xh) (.slice xa n xc)
    have hat := At.beside HXA.out.1 HXA.out.2 k3 (fun j e => by subst e; exact ⟨_, _, _, HB42.out, by decide⟩)
    refine ⟨⟨xk, xh, xa, xc, xb⟩, by rw [← HBB.out]; dsimp only; rw [← HNN.out]; rfl, HXT.out, hat.1, ?_, ?_⟩
    · unfold takeL
      rw [if_neg (by rw [← HBB.out]; decide)]
      refine HN2.out.beside k3 (fun j e => ?_)
      subst e
      exact ⟨by have := HN0.out.row.kept.size; have := HQ.out; omega, fun m hm => typ_ne (HN2.out.typ m hm) HB42.out (by decide), box_ne HB42.out HN2.out.box (by decide), fun e1 => by have := (ownsRow_lt HN0.out.row.own e1).1; have := HQ.out; omega⟩
    · exact (HK2.out.newer k3 (fun j e => by subst e; exact HQ.out.1)).mono (fun _ _ x => x.elim)
  | true =>
    have hi := of_decide_eq_true HBB.out.symm
    obtain ⟨j, rfl⟩ : ∃ j : Nat, i = (j : Int) := ⟨i.toNat, by omega⟩
    have hj : j < L.length := by omega
    obtain ⟨g, hao⟩ : ∃ g, ao = some ⟨g, 0, none⟩ := by
      obtain ⟨g, e, _⟩ := HN2.out.at_ (List.getElem?_eq_getElem hj)
      exact ⟨g, e⟩
    subst hao
    have HD := Lib.hid (mdelete_any W g cp L j hj w2 HN2.out.row HLL.out)
    have cN := HN2.out.cell
    have wj : IntKind.i64.wrap ((j : Int) + 1) = ((j + 1 : Nat) : Int) := by rw [IntWalk.i64_in _ ⟨by omega, by have := HLL.out; omega⟩]; omega
    have HTK : Hid (takeL L (j : Int) = L.eraseIdx j) := Lib.hid (by unfold takeL; rw [if_pos HBB.out.symm, Int.toNat_natCast])
    have HGL := Lib.hid (show g < w.heap.size from (ownsRow_lt HN0.out.row.own rfl).1)
    have hle : L.length - 1 = (L.eraseIdx j).length := by rw [List.length_eraseIdx, if_pos hj]
    rw [hle] at HD
    obtain ⟨m', hm'⟩ : ∃ m', m' = (L.eraseIdx j).length := ⟨_, rfl⟩
    rw [← hm'] at HD
    have HMM := Lib.hid hm'
    clear hi hj hle hm'
    go_wp2_with fail
    refine HD.out.mono ?_
    rintro e w3 ⟨rfl, hm3, hk3⟩
    have hk3' : Kept (fun k => (Value.slice (some ⟨g, 0, none⟩) L.length cp).ownBlock = some k) w2 w3 := hk3.mono (fun k _ e => by subst e; rfl)
    rw [HMM.out] at hm3
    have hts := HN2.out.turned hm3 hk3' (fun m hm => ⟨HN2.out.data m (List.mem_of_mem_eraseIdx hm), HN2.out.typ m (List.mem_of_mem_eraseIdx hm), HN2.out.byte m (List.mem_of_mem_eraseIdx hm)⟩)
    rw [← HMM.out] at hts
    have y0 := hts.1
    have y1 := hts.2.1
    have HB63 : Hid (MB w3 q6 xk xh (.slice xa n xc)) := Lib.hid (hk3.same HB6.out (fun e => by have := HGL.out; have := HQ.out; omega))
    have HB43 : Hid (MB w3 q4 false 0 (.slice none 0 0)) := Lib.hid (hk3.same HB42.out (fun e => by have := HGL.out; have := HQ.out; omega))
    obtain ⟨w4, hw4⟩ : ∃ w4, w4 = w3.setCell ⟨nb, 0, none⟩ (.slice (some ⟨g, 0, none⟩) m' cp) := ⟨_, rfl⟩
    have HW4 := Lib.hid hw4
    have HN4 : Hid (NS W w4 nb (L.eraseIdx j) (some ⟨g, 0, none⟩) cp) := Lib.hid (by rw [hw4]; exact hts.2.2)
    have k34 : Kept (fun k => k = nb) w3 w4 := by rw [hw4]; exact (Kept.refl (fun k => k = nb) w3).setCell (p := ⟨nb, 0, none⟩) (fun _ => rfl) _
    have HK24 : Hid (Kept (fun k => k = nb ∨ k = g) w2 w4) := Lib.hid ((hk3.mono (fun _ _ e => Or.inr e)).trans (k34.mono (fun _ _ e => Or.inl e)))
    have hb3 : w3.heap[nb]? = some (.cells #[.slice (some ⟨g, 0, none⟩) L.length cp] 100 (0, 0)) := hk3'.same HN2.out.box (own_ne_box HN2.out.row.own HN2.out.box (by decide))
    have HB64 : Hid (MB w4 q6 xk xh (.slice xa n xc)) := Lib.hid (k34.same HB63.out (box_ne HB63.out hb3 (by decide)))
    have HB44 : Hid (MB w4 q4 false 0 (.slice none 0 0)) := Lib.hid (k34.same HB43.out (box_ne HB43.out hb3 (by decide)))
    have hxa3 := At.beside HXA.out.1 HXA.out.2 hk3' (fun j e => by
      obtain ⟨cur, hc⟩ := ownsRow_block HN2.out.row.own e
      exact ⟨_, _, _, hc, by decide⟩)
    have HXA4 := Lib.hid (At.beside hxa3.1 hxa3.2 k34 (fun j e => by subst e; exact ⟨_, _, _, hb3, by decide⟩))
    clear hm3 hk3 hk3' hts hw4 k34 hb3 hxa3 cN wj
    go_upto_region 4 with fail
    rw [← HW4.out]
    clear y0 y1
    obtain ⟨b10, b11, b12⟩ := HB64.out.c
    obtain ⟨b20, b21, b22⟩ := HB44.out.c
    have f0 := HB44.out.fz 0
    have f1 := HB44.out.fz 1
    have f2 := HB44.out.fz 2
    go_wp2
    try simp only [Exit.inBlock, Exit.then]
    refine msg_end2 Try.results17 rfl rfl rfl (HB44.out.set3 xk xh (.slice xa n xc)) ?_
    have k5 := set3_keptM w4 q4 (.bool xk) (.int .i64 xh) (.slice xa n xc)
    have hat := At.beside HXA4.out.1 HXA4.out.2 k5 (fun j e => by subst e; exact ⟨_, _, _, HB44.out, by decide⟩)
    refine ⟨⟨xk, xh, xa, xc, xb⟩, by rw [← HBB.out]; dsimp only; rw [← HNN.out]; rfl, HXT.out, hat.1, ?_, ?_⟩
    · rw [HTK.out]
      refine HN4.out.beside k5 (fun j e => ?_)
      subst e
      exact ⟨by have := HN0.out.row.kept.size; have := HQ.out; omega, fun m hm => typ_ne (HN4.out.typ m hm) HB44.out (by decide), box_ne HB44.out HN4.out.box (by decide), fun e1 => by injection e1 with e1; have := HGL.out; have := HQ.out; simp only at e1; omega⟩
    · have k6 : Kept (fun k => k = nb ∨ k = g) w w4 := (HK2.out.mono (fun _ _ x => x.elim)).trans HK24.out
      refine ((k6.step k5 (fun j hj e => ?_)).mono (fun k _ e => ?_))
      · subst e; have := HQ.out; omega
      · rcases e with e | e
        · exact .inl e
        · subst e; exact .inr rfl
end Go.Proofs.Ytkidbbmdlmnokaa
