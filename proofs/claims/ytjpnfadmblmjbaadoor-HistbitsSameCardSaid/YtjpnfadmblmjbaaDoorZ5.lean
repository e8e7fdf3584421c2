/- package histbits: putShape. -/
import Derived.Test.YtjpnfadmblmjbaaDoorZ4
namespace Go.Proofs.YtjpnfadmblmjbaaDoor
open Go.RowKit
attribute [local go_sem ↓] Go.wp_at_zero Go.wp_at_succ

theorem BwTo.ahead {w w0 w1 : World} {B p : Nat} {v : Value} {bs' : List Bool} (k : Kept (fun _ => False) w w0) (t : BwTo w0 w1 B p v bs') : BwTo w w1 B p v bs' := by
  obtain ⟨v1, a1, a2, a3⟩ := t
  refine ⟨v1, a1, ?_, (keptTo k).step a3 (fun k _ e => e)⟩
  rcases a2 with e | ⟨g, e, hg⟩
  · exact .inl e
  · exact .inr ⟨g, e, by have := k.size; omega⟩

set_option maxHeartbeats 4000000 in
set_option maxRecDepth 100000 in
theorem putShape_any (B p : Nat) (v : Value) (bs : List Bool) (h : HistV) (w : World) (HW : BwAt w B p v bs) (hB0 : 0 < B) (hB : B ≤ w.heap.size) (hl : bs.length ≤ 100000000) (HT : ClassTab w)
    (hs : -10 ≤ h.sc ∧ h.sc ≤ 20) (hp : h.pl.length ≤ 160) (hn : h.nl.length ≤ 160) (ho : I64 h.po) (hno : I64 h.no) :
    Calls Tryd.prog 67 #[.pointer (some ⟨p, 0, none⟩), shapeV h] w fun e w' => e = .returned (.tuple #[]) ∧ BwTo w w' B p v (bs ++ shapeB h) := by
  obtain ⟨sc, ze, po, pl, no, nl⟩ := h
  unfold shapeV
  simp only at hs hp hn ho hno ⊢
  obtain ⟨SC, hSC⟩ : ∃ k : Nat, k = (sc + 10).toNat := ⟨_, rfl⟩
  have s1 : sc - -10 = (SC : Int) := by omega
  have s2 : sc + 10 = (SC : Int) := by omega
  have s3 : IntKind.i64.wrap (SC : Int) = (SC : Int) := IntWalk.i64_in _ ⟨by omega, by omega⟩
  have s4 : IntKind.u64.wrap (SC : Int) = (SC : Int) := by rw [IntKind.wrap_u64]; omega
  have HSB := Lib.hid (show shapeB ⟨sc, ze, po, pl, no, nl⟩ = bitsN SC 5 ++ sideB po pl.length ++ sideB no nl.length by unfold shapeB; rw [← hSC])
  obtain ⟨pn, hpn⟩ : ∃ n, n = pl.length := ⟨_, rfl⟩
  obtain ⟨nn, hnn⟩ : ∃ n, n = nl.length := ⟨_, rfl⟩
  rw [← hpn, ← hnn] at HSB
  rw [← hpn] at hp ⊢
  rw [← hnn] at hn ⊢
  have HO := Lib.hid (And.intro ho hno)
  have HB0 := Lib.hid (And.intro hB0 hB)
  have HBW := Lib.hid HW
  have HTT := Lib.hid HT
  have HL := Lib.hid hl
  have HP := Lib.hid (And.intro hp hn)
  have hsc5 : SC < 2 ^ 5 := by simp; omega
  have HS5 := Lib.hid hsc5
  have u1 : IntKind.u64.wrap (pn : Int) = (pn : Int) := by rw [IntKind.wrap_u64]; omega
  have u2 : IntKind.u64.wrap (nn : Int) = (nn : Int) := by rw [IntKind.wrap_u64]; omega
  obtain ⟨w0, hw0⟩ : ∃ w0, w0 = w.alloc (.cells #[.int .i64 sc, .int .i64 po, .int .i64 (pn : Int), .int .i64 no, .int .i64 (nn : Int)] 101) := ⟨_, rfl⟩
  have hk0 : Kept (fun _ => False) w w0 := by rw [hw0]; exact (Kept.refl _ _).alloc _
  have hb0 : w0.heap[w.heap.size]? = some (.cells #[.int .i64 sc, .int .i64 po, .int .i64 (pn : Int), .int .i64 no, .int .i64 (nn : Int)] 101 (0, 0)) := by rw [hw0]; exact heap_alloc_new w _
  obtain ⟨q, hq⟩ : ∃ q, q = w.heap.size := ⟨_, rfl⟩
  rw [← hq] at hb0
  have HK0 := Lib.hid hk0
  have HBX := Lib.hid hb0
  have HW0 := Lib.hid hw0
  have HQ := Lib.hid hq
  have hc := fun j => cell_of_row _ q j _ _ _ hb0
  have x0 : w0.cell? ⟨q, 0, none⟩ = some (.int .i64 sc) := (hc 0).trans rfl
  clear hpn hnn ho hno hB0 hB HW HT hl hs hSC hsc5 hk0 hb0 hw0 hq hc s2 hp hn
  go_enter Tryd.func67, Tryd.ntmps67
  go_upto_region 1 with fail
  rw [← HW0.out, ← HQ.out]
  go_wp2_with fail
  refine (bput_yes B p v bs SC 5 w0 (HBW.out.keptF HK0.out) (by have := HB0.out; have := HK0.out.size; omega) (by omega) HS5.out (by have := HL.out; omega)).mono ?_
  rintro e w1 ⟨rfl, t1⟩
  have hqp : q ≠ p := by have := HBW.out.lt; have := HQ.out; omega
  have hqv : v.ownBlock ≠ some q := fun e => by have := (ownsRow_lt HBW.out.owns e).1; have := HQ.out; omega
  have hb1 := BwTo.newer t1 HBX.out hqp hqv
  obtain ⟨v0, c0, z0, HC0⟩ := (HBW.out.beside HK0.out).part
  have hT1 : BwTo w w1 B p v (bs ++ bitsN SC 5) := by
    obtain ⟨v1, a1, a2, a3⟩ := t1
    exact ⟨v1, a1, by
      rcases a2 with e | ⟨g, e, hg⟩
      · exact .inl e
      · exact .inr ⟨g, e, by have := HK0.out.size; omega⟩, (keptTo HK0.out).step a3 (fun k _ e => e)⟩
  have HT1 := Lib.hid hT1
  have hc := fun j => cell_of_row _ q j _ _ _ hb1
  have x1 : w1.cell? ⟨q, 1, none⟩ = some (.int .i64 po) := (hc 1).trans rfl
  have x2 : w1.cell? ⟨q, 2, none⟩ = some (.int .i64 (pn : Int)) := (hc 2).trans rfl
  have x3 : w1.cell? ⟨q, 3, none⟩ = some (.int .i64 no) := (hc 3).trans rfl
  have x4 : w1.cell? ⟨q, 4, none⟩ = some (.int .i64 (nn : Int)) := (hc 4).trans rfl
  clear t1 hT1 hc hqp hqv c0 z0 HC0 hb1 x0
  go_wp2
  go_loopg [25] 2 (fun x s25 wr => ∃ k : Nat, k ≤ 2 ∧ x = 2 - k ∧ s25 = .int .i64 k ∧ ((k = 0 ∧ BwTo w wr B p v (bs ++ bitsN SC 5)) ∨ (k = 1 ∧ BwTo w wr B p v (bs ++ bitsN SC 5 ++ sideB po pn)) ∨ (k = 2 ∧ BwTo w wr B p v (bs ++ bitsN SC 5 ++ sideB po pn ++ sideB no nn))))
  case atStart => exact ⟨0, by omega, rfl, rfl, .inl ⟨rfl, HT1.out⟩⟩
  case round =>
    obtain ⟨k, hk, rfl, rfl, ⟨rfl, ht⟩ | ⟨rfl, ht⟩ | ⟨rfl, ht⟩⟩ := hrel <;> clear hk
    · have HT2 := Lib.hid ht
      obtain ⟨v2, b2, z2, HC2⟩ := ht.part
      have HB2 := Lib.hid b2
      have HZ2 := Lib.hid z2
      have ix : ∀ w, (Instr.index 120 (.agg #[.int .i64 po, .int .i64 (pn : Int), .int .i64 no, .int .i64 (nn : Int)]) (.int .i64 0)).run Tryd.prog w = .ok (.agg #[.int .i64 po, .int .i64 (pn : Int)]) w := fun _ => by kernel_rfl
      have hba := heap_alloc_new wr (.cells #[.int .i64 po, .int .i64 (pn : Int)] 119)
      have HKA := Lib.hid ((Kept.refl (fun _ => False) wr).alloc (.cells #[.int .i64 po, .int .i64 (pn : Int)] 119))
      obtain ⟨w4, hw4⟩ : ∃ w', w' = wr.alloc (.cells #[.int .i64 po, .int .i64 (pn : Int)] 119) := ⟨_, rfl⟩
      obtain ⟨q4, hq4⟩ : ∃ x, x = wr.heap.size := ⟨_, rfl⟩
      rw [← hw4] at HKA hba
      rw [← hq4] at hba
      have HW4 := Lib.hid hw4
      have HQ4 := Lib.hid hq4
      obtain ⟨y0, y1⟩ := box2s hba
      clear ht b2 z2 hw4 hq4 hba
      go_upto_region 5 with fail
      rw [← HW4.out, ← HQ4.out]
      go_quiet (fail)
      go_wp2_with fail
      refine (bput_yes B p v2 _ pn 8 _ (HB2.out.keptF (HKA.out.drewN _)) (by have h1 := HB0.out; have h2 := HZ2.out; have h3 := (HKA.out.drewN (S := fun _ => False) (n := 0)).size; have h4 := HKA.out.size; simp; omega) (by omega) (by have := HP.out; simp; omega) (by have := HL.out; have := sideB_len po pn; simp only [List.length_append, bitsN_length]; omega)).mono ?_
      rintro e w5 ⟨rfl, t5⟩
      have HT5 := Lib.hid (HC2.out _ _ (BwTo.ahead (HKA.out.drewN _) t5))
      clear t5 y0 y1
      by_cases h0 : pn = 0
      · have g0 : ¬ (0 : Int) < (pn : Int) := by omega
        have HE := Lib.hid (show sideB po pn = bitsN pn 8 by unfold sideB; rw [if_pos h0, List.append_nil])
        clear h0
        go_wp2
        go_roundg 1
        case measure => omega
        case rel => exact ⟨1, by omega, by omega, rfl, .inr (.inl ⟨rfl, by rw [HE.out]; exact HT5.out⟩)⟩
      · have g0 : (0 : Int) < (pn : Int) := by omega
        have HE := Lib.hid (show sideB po pn = bitsN pn 8 ++ smallB (zgN po) by unfold sideB; rw [if_neg h0])
        obtain ⟨v5, b5, z5, HC5⟩ := HT5.out.part
        have hz := zgN_eq po HO.out.1.1 HO.out.1.2
        have HPI := Lib.hid (varyPutInt_any B p v5 _ po (zgN po) w5 b5 HB0.out.1 (by have := HB0.out.2; omega) HO.out.1.1 HO.out.1.2 hz.1 hz.2 (by have := HL.out; have := sideB_len po pn; simp only [List.length_append, bitsN_length]; omega) (HTT.out.bw HBW.out HB0.out.1 HT5.out))
        clear h0 b5 z5 hz
        go_wp2_with fail
        refine HPI.out.mono ?_
        rintro e w6 ⟨rfl, t6⟩
        have HT6 := Lib.hid (HC5.out _ _ t6)
        clear t6
        go_wp2
        go_roundg 1
        case measure => omega
        case rel => exact ⟨1, by omega, by omega, rfl, .inr (.inl ⟨rfl, by rw [HE.out, ← List.append_assoc]; exact HT6.out⟩)⟩
    · have HT2 := Lib.hid ht
      obtain ⟨v2, b2, z2, HC2⟩ := ht.part
      have HB2 := Lib.hid b2
      have HZ2 := Lib.hid z2
      have ix : ∀ w, (Instr.index 120 (.agg #[.int .i64 po, .int .i64 (pn : Int), .int .i64 no, .int .i64 (nn : Int)]) (.int .i64 1)).run Tryd.prog w = .ok (.agg #[.int .i64 no, .int .i64 (nn : Int)]) w := fun _ => by kernel_rfl
      have hba := heap_alloc_new wr (.cells #[.int .i64 no, .int .i64 (nn : Int)] 119)
      have HKA := Lib.hid ((Kept.refl (fun _ => False) wr).alloc (.cells #[.int .i64 no, .int .i64 (nn : Int)] 119))
      obtain ⟨w4, hw4⟩ : ∃ w', w' = wr.alloc (.cells #[.int .i64 no, .int .i64 (nn : Int)] 119) := ⟨_, rfl⟩
      obtain ⟨q4, hq4⟩ : ∃ x, x = wr.heap.size := ⟨_, rfl⟩
      rw [← hw4] at HKA hba
      rw [← hq4] at hba
      have HW4 := Lib.hid hw4
      have HQ4 := Lib.hid hq4
      obtain ⟨y0, y1⟩ := box2s hba
      clear ht b2 z2 hw4 hq4 hba
      go_upto_region 5 with fail
      rw [← HW4.out, ← HQ4.out]
      go_quiet (fail)
      go_wp2_with fail
      refine (bput_yes B p v2 _ nn 8 _ (HB2.out.keptF (HKA.out.drewN _)) (by have h1 := HB0.out; have h2 := HZ2.out; have h3 := (HKA.out.drewN (S := fun _ => False) (n := 0)).size; have h4 := HKA.out.size; simp; omega) (by omega) (by have := HP.out; simp; omega) (by have := HL.out; have := sideB_len po pn; simp only [List.length_append, bitsN_length]; omega)).mono ?_
      rintro e w5 ⟨rfl, t5⟩
      have HT5 := Lib.hid (HC2.out _ _ (BwTo.ahead (HKA.out.drewN _) t5))
      clear t5 y0 y1
      by_cases h0 : nn = 0
      · have g0 : ¬ (0 : Int) < (nn : Int) := by omega
        have HE := Lib.hid (show sideB no nn = bitsN nn 8 by unfold sideB; rw [if_pos h0, List.append_nil])
        clear h0
        go_wp2
        go_roundg 0
        case measure => omega
        case rel => exact ⟨2, by omega, by omega, rfl, .inr (.inr ⟨rfl, by rw [HE.out]; exact HT5.out⟩)⟩
      · have g0 : (0 : Int) < (nn : Int) := by omega
        have HE := Lib.hid (show sideB no nn = bitsN nn 8 ++ smallB (zgN no) by unfold sideB; rw [if_neg h0])
        obtain ⟨v5, b5, z5, HC5⟩ := HT5.out.part
        have hz := zgN_eq no HO.out.2.1 HO.out.2.2
        have HPI := Lib.hid (varyPutInt_any B p v5 _ no (zgN no) w5 b5 HB0.out.1 (by have := HB0.out.2; omega) HO.out.2.1 HO.out.2.2 hz.1 hz.2 (by have := HL.out; have := sideB_len po pn; simp only [List.length_append, bitsN_length]; omega) (HTT.out.bw HBW.out HB0.out.1 HT5.out))
        clear h0 b5 z5 hz
        go_wp2_with fail
        refine HPI.out.mono ?_
        rintro e w6 ⟨rfl, t6⟩
        have HT6 := Lib.hid (HC5.out _ _ t6)
        clear t6
        go_wp2
        go_roundg 0
        case measure => omega
        case rel => exact ⟨2, by omega, by omega, rfl, .inr (.inr ⟨rfl, by rw [HE.out, ← List.append_assoc]; exact HT6.out⟩)⟩
    · have HT2 := Lib.hid ht
      clear ht
      go_wp2
      go_end0
      refine ⟨rfl, ?_⟩
      rw [HSB.out, ← List.append_assoc, ← List.append_assoc]
      exact HT2.out
end Go.Proofs.YtjpnfadmblmjbaaDoor
