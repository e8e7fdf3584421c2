/- Layer 23: Double; a message's bytes, plainly; net.Bytes and the document's. -/
import Derived.Test.YtkidbbmdlmnokaaU6
import Derived.Test.YtkidbbmdlmnokaaPK
namespace Go.Proofs.Ytkidbbmdlmnokaa
open Go.RowKit
attribute [local go_sem ↓] Go.wp_at_zero Go.wp_at_succ

def doubleB (L : List Mg) (i : Int) : Bool := hasB L i && decide (L.length < 4096)
def DoubleTo (W w : World) (nb : Nat) (L : List Mg) (ao : Option Addr) (cp : Nat) (i : Int) (e : Ending) (w' : World) : Prop :=
  e = .returned (.bool (doubleB L i)) ∧ (doubleB L i = false → Kept (fun _ => False) w w') ∧ (doubleB L i = true → GrewTo W w nb L ao cp (lookT L i) w')
set_option maxHeartbeats 2000000 in
theorem netDouble_any (W : World) (nb : Nat) (L : List Mg) (ao : Option Addr) (cp : Nat) (i : Int) (w : World) (h : NS W w nb L ao cp) (hl : L.length ≤ 1000000) :
    Calls Try.prog 20 #[.pointer (some ⟨nb, 0, none⟩), .int .i64 i] w (DoubleTo W w nb L ao cp i) := by
  have HH := Lib.hid (netHas_any W nb L ao cp i w h)
  by_cases hi : hasB L i = true
  · obtain ⟨j, rfl⟩ : ∃ j : Nat, i = (j : Int) := ⟨i.toNat, by have := of_decide_eq_true hi; omega⟩
    have hj : j < L.length := by have := of_decide_eq_true hi; omega
    have hg := List.getElem?_eq_getElem hj
    have hmem := List.getElem_mem hj
    have HX : Hid (lookT L (j : Int) = L[j].t) := Lib.hid (by unfold lookT; rw [if_pos hi, Int.toNat_natCast, List.getD_eq_getElem?_getD, hg]; rfl)
    obtain ⟨m, hm⟩ : ∃ m, m = L[j] := ⟨_, rfl⟩
    rw [← hm] at hg HX hmem
    have hby := h.byte m hmem
    have hr := right_len hby.2
    have HS := Lib.hid (netSend_any W nb L ao cp m.ack m.have_ m.a m.b.length m.c m.b rfl w h (h.data m hmem) (by have : m.b.length ≤ 65536 := hr; omega) hl hby.1)
    have HE : Hid (doubleB L (j : Int) = sendB L m.t) := Lib.hid (by unfold doubleB sendB; rw [hi, hby.2, Bool.true_and, Bool.and_true])
    obtain ⟨g, hao, cA, cH, cV⟩ := h.at_ hg
    have cN := h.cell
    subst hao
    rw [hi] at HH
    obtain ⟨mk, mh, ma, mc, mb⟩ := m
    dsimp only at cA cH cV HS
    obtain ⟨nn, hnn⟩ : ∃ nn, nn = mb.length := ⟨_, rfl⟩
    rw [← hnn] at cV HS
    have hjl : (j : Int) < (L.length : Int) := by omega
    have hj0 : (0 : Int) ≤ (j : Int) := by omega
    clear hi hg hmem hm hby hr hnn hj h hl
    go_enter Try.func20, Try.ntmps20
    go_wp2_with fail
    refine HH.out.mono ?_
    rintro e w2 ⟨rfl, rfl⟩
    go_wp2_with fail
    refine HS.out.mono ?_
    intro e w3 hs
    obtain ⟨rfl, h2, h3⟩ := hs.parts
    have H2 := Lib.hid h2
    have H3 := Lib.hid h3
    clear h2 h3 hs
    go_wp2
    go_ret
    refine ⟨by rw [HE.out]; rfl, fun e => H2.out (by rw [HE.out] at e; exact e), fun e => ?_⟩
    have := H3.out (by rw [HE.out] at e; exact e)
    rw [HX.out]
    exact this
  · have hi : hasB L i = false := by simpa using hi
    have HE : Hid (doubleB L i = false) := Lib.hid (by unfold doubleB; rw [hi]; rfl)
    rw [hi] at HH
    clear hi h hl
    go_enter Try.func20, Try.ntmps20
    go_wp2_with fail
    refine HH.out.mono ?_
    rintro e w2 ⟨rfl, rfl⟩
    go_wp2
    go_ret
    exact ⟨by rw [HE.out]; rfl, fun _ => Kept.refl _ _, fun e => by rw [HE.out] at e; cases e⟩

/-- A message's bytes. -/
def msgB (t : Tl) : List Int := if t.ack then [1] ++ numB t.have_ else [0] ++ numB (t.b.length : Nat) ++ t.b
theorem numB_0 : numB 0 = [0] := by decide
theorem numB_1 : numB 1 = [1] := by decide
/-- What Bytes answers. -/
def msgE (t : Tl) : Int × List Int := if rightB t = true then (0, msgB t) else (1, [])
theorem msgB_len {t : Tl} (h : rightB t = true) : (msgB t).length ≤ 65546 := by
  have := right_len h
  have h1 := numB_len t.have_
  have h2 := numB_len ((t.b.length : Nat) : Int)
  unfold msgB
  split
  · simp only [List.length_append, List.length_cons, List.length_nil]; omega
  · simp only [List.length_append, List.length_cons, List.length_nil]; omega
set_option maxHeartbeats 4000000 in
theorem netBytes_any (ack : Bool) (hv : Int) (a : Option Addr) (n c : Nat) (b : List Int) (hbn : b.length = n) (w : World) (hs : SlAt w (.slice a n c) (u8s b)) (hl : n ≤ 1000000) (hby : ∀ x ∈ b, 0 ≤ x ∧ x < 256) :
    Calls Try.prog 26 #[.agg #[.bool ack, .int .i64 hv, .slice a n c]] w fun e w' => BuildTo w (msgE ⟨ack, hv, b⟩) e w' := by
  obtain ⟨wa, hwa⟩ : ∃ wa, wa = w.alloc (.cells #[.bool ack, .int .i64 hv, .slice a n c] 29) := ⟨_, rfl⟩
  obtain ⟨q1, hq1⟩ : ∃ q, q = w.heap.size := ⟨_, rfl⟩
  have ka : Kept (fun _ => False) w wa := by rw [hwa]; exact (Kept.refl _ _).alloc _
  have HB1 : Hid (MB wa q1 ack hv (.slice a n c)) := Lib.hid (by rw [hwa, hq1]; exact heap_alloc_new w _)
  have HSA := Lib.hid (hs.kept ka (fun _ _ x => x))
  have HK := Lib.hid ka
  have HW := Lib.hid (And.intro hwa hq1)
  have HRT := Lib.hid (fun w => right_any ack hv a c b w)
  have HBN := Lib.hid hbn
  have HLN := Lib.hid hl
  have HSB := Lib.hid (strB_strOf hby)
  rw [hbn] at HRT
  obtain ⟨b10, b11, b12⟩ := HB1.out.c
  obtain ⟨R, hR⟩ : ∃ R, R = rightB ⟨ack, hv, b⟩ := ⟨_, rfl⟩
  rw [← hR] at HRT
  have HR := Lib.hid hR
  clear hwa hq1 ka hs hbn hby hl hR
  cases R with
  | false =>
    have HX : Hid (msgE ⟨ack, hv, b⟩ = (1, [])) := Lib.hid (if_neg (by rw [← HR.out]; decide))
    go_enter Try.func26, Try.ntmps26
    go_upto_region 1 with fail
    rw [← HW.out.1, ← HW.out.2]
    go_wp2_with fail
    refine (HRT.out _).mono ?_
    rintro e w2 ⟨rfl, k2⟩
    have HK2 := Lib.hid (HK.out.trans k2)
    clear k2
    go_wp2
    go_ret2
    rw [HX.out]
    exact ⟨_, rfl, World.ownsRow_nil _ _ _ _, HK2.out⟩
  | true =>
    have HX : Hid (msgE ⟨ack, hv, b⟩ = (0, msgB ⟨ack, hv, b⟩)) := Lib.hid (if_pos HR.out.symm)
    have hml := msgB_len (t := ⟨ack, hv, b⟩) HR.out.symm
    have HML := Lib.hid hml
    clear hml
    go_enter Try.func26, Try.ntmps26
    go_upto_region 1 with fail
    rw [← HW.out.1, ← HW.out.2]
    go_wp2_with fail
    refine (HRT.out _).mono ?_
    rintro e w2 ⟨rfl, k2⟩
    have HK2 := Lib.hid (HK.out.trans k2)
    have HB2 : Hid (MB w2 q1 ack hv (.slice a n c)) := Lib.hid (k2.same HB1.out (fun x => x))
    have HS2 := Lib.hid (HSA.out.kept k2 (fun _ _ x => x))
    clear k2 b10 b11 b12
    go_wp2_with fail
    refine (wkNew_any _).mono ?_
    rintro e w3 ⟨p, rfl, hw3⟩
    have HW3 := Lib.hid hw3
    have HK3 := Lib.hid (HK2.out.trans hw3.old)
    have HB3 : Hid (MB w3 q1 ack hv (.slice a n c)) := Lib.hid (hw3.old.same HB2.out (fun x => x))
    have HS3 := Lib.hid (HS2.out.kept hw3.old (fun _ _ x => x))
    clear hw3
    obtain ⟨b10, b11, b12⟩ := HB3.out.c
    cases ack with
    | true =>
      have hre : rightB ⟨true, hv, b⟩ = true := HR.out.symm
      unfold rightB at hre
      have hre2 := of_decide_eq_true hre
      dsimp only at hre2
      have wh : IntKind.u64.wrap hv = hv := wrap_u64_of _ hre2.1 (by omega)
      have HH := Lib.hid (show 0 ≤ hv ∧ hv ≤ 4503599627370497 from ⟨hre2.1, hre2.2.1⟩)
      clear hre hre2
      go_wp2_with fail
      refine (wkNum_any 1 HW3.out (by omega) (by omega) (by simp)).mono ?_
      rintro e w4 ⟨rfl, hw4⟩
      have HW4 := Lib.hid hw4
      have hb4 : MB w4 q1 true hv (.slice a n c) := hw4.old.same HB2.out (fun x => x)
      clear b10 b11 b12 hw4
      obtain ⟨b10, b11, b12⟩ := hb4.c
      clear hb4
      go_wp2_with fail
      refine (wkNum_any hv HW4.out HH.out.1 (by have := HH.out; omega) (by have := numB_len 1; simp; omega)).mono ?_
      rintro e w5 ⟨rfl, hw5⟩
      rw [List.nil_append, numB_1] at hw5
      have HW5 := Lib.hid hw5
      clear hw5 b10 b11 b12 wh
      go_wp2_with fail
      refine (wkBytes_any HW5.out (by have := HML.out; unfold msgB at this; rw [if_pos rfl] at this; dsimp only at this; omega)).mono ?_
      rintro e w6 ⟨v, rfl, ho, hk⟩
      have HO := Lib.hid (And.intro ho hk)
      clear ho hk
      go_wp2
      go_ret2
      rw [HX.out]
      refine ⟨_, rfl, ?_, HK2.out.trans HO.out.2⟩
      show w6.ownsRow w.heap.size 5 1 v (msgB ⟨true, hv, b⟩).length (u8s (msgB ⟨true, hv, b⟩))
      unfold msgB
      rw [if_pos rfl]
      exact wown_base HO.out.1 HK2.out.size
    | false =>
      have cv := run_strI (P := Try.prog) HS3.out 27 5 9 Try.underlying27 Try.underlying5 Try.underlying9
      go_wp2_with fail
      refine (wkNum_any 0 HW3.out (by omega) (by omega) (by simp)).mono ?_
      rintro e w4 ⟨rfl, hw4⟩
      have HW4 := Lib.hid hw4
      have hb4 : MB w4 q1 false hv (.slice a n c) := hw4.old.same HB2.out (fun x => x)
      have cv2 := run_strI (P := Try.prog) (HS2.out.kept hw4.old (fun _ _ x => x)) 27 5 9 Try.underlying27 Try.underlying5 Try.underlying9
      clear b10 b11 b12 hw4 cv
      obtain ⟨b10, b11, b12⟩ := hb4.c
      obtain ⟨x, hx⟩ : ∃ x, x = strOfNums b := ⟨_, rfl⟩
      rw [← hx] at cv2 HSB
      have HXS : Hid (x.size = n) := Lib.hid (by rw [hx, strOf_size, HBN.out])
      clear hb4 hx
      go_wp2_with fail
      refine (wkText_any x HW4.out (by have := HXS.out; have := HLN.out; omega) (by have := numB_len 0; simp; omega)).mono ?_
      rintro e w5 ⟨rfl, hw5⟩
      rw [List.nil_append, numB_0, HXS.out, HSB.out] at hw5
      have HW5 := Lib.hid hw5
      clear hw5 b10 b11 b12 cv2
      go_wp2_with fail
      refine (wkBytes_any HW5.out (by have := HML.out; unfold msgB at this; rw [if_neg (by simp)] at this; dsimp only at this; rw [HBN.out] at this; omega)).mono ?_
      rintro e w6 ⟨v, rfl, ho, hk⟩
      have HO := Lib.hid (And.intro ho hk)
      clear ho hk
      go_wp2
      go_ret2
      rw [HX.out]
      refine ⟨_, rfl, ?_, HK2.out.trans HO.out.2⟩
      show w6.ownsRow w.heap.size 5 1 v (msgB ⟨false, hv, b⟩).length (u8s (msgB ⟨false, hv, b⟩))
      unfold msgB
      rw [if_neg (by simp)]
      dsimp only
      rw [HBN.out]
      exact wown_base HO.out.1 HK2.out.size
end Go.Proofs.Ytkidbbmdlmnokaa
