/- package symtab, layer 34: Prefix. -/
import Derived.Test.YtkidbbmdlmnokaaT9
namespace Go.Proofs.Ytkidbbmdlmnokaa
open Go.RowKit
attribute [local go_sem ↓] Go.wp_at_zero Go.wp_at_succ
theorem Try.infoStr34 : (Try.prog.info? 9).map (fun i => i.size) = some 1 := by kernel_rfl
theorem teller_prefix (W : World) (q1 q2 cp z : Nat) (ao : Option Addr) (L : List ByteArray) (s : ByteArray)
    (h1 : W.cell? ⟨q1, 0, none⟩ = some (.slice ao (L.length - z) cp)) (h2 : W.cell? ⟨q2, 0, none⟩ = some (.string s)) (hs : StrsAt W (.slice ao (L.length - z) cp) (L.drop z)) :
    NTeller W 83 #[.pointer (some ⟨q1, 0, none⟩), .pointer (some ⟨q2, 0, none⟩)] (L.length - z) (noPre L z s) := by
  refine ⟨fun w' i hi k => ?_, enter_prefix⟩
  have hj : z + i < L.length := by omega
  have hg : (L.drop z)[i]? = some L[z + i] := by rw [List.getElem?_drop]; exact List.getElem?_eq_getElem hj
  have hp : noPre L z s i = !begS L[z + i] s := by
    unfold noPre; rw [List.getD_eq_getElem?_getD, List.getElem?_eq_getElem hj]; rfl
  obtain ⟨g, off, ha, hcell⟩ := hs.cell hg
  subst ha
  rw [hp]
  exact prefix1_any g off q1 q2 _ cp i _ s w' hi (k.cell h1 (fun x => x)) (k.cell h2 (fun x => x)) (k.cell hcell (fun x => x))
set_option maxHeartbeats 2000000 in
theorem tprefix_any (tb : Nat) (L : List ByteArray) (s : ByteArray) (w : World) (hT : TabAt w tb L) (hl : L.length ≤ 1000000) :
    Calls Try.prog 44 #[.pointer (some ⟨tb, 0, none⟩), .string s] w fun e w' => ∃ z y, SearchTo L.length (geAt L s) z ∧ SearchTo (L.length - z) (noPre L z s) y ∧ e = .returned (.tuple #[.int .i64 (z : Nat), .int .i64 ((z : Nat) + (y : Nat) : Int)]) ∧ Kept (fun _ => False) w w' := by
  obtain ⟨w1, hw1⟩ : ∃ w1, w1 = w.alloc (.cells #[.string s] 9) := ⟨_, rfl⟩
  obtain ⟨q, hq⟩ : ∃ q, q = w.heap.size := ⟨_, rfl⟩
  have hk1 : Kept (fun _ => False) w w1 := by rw [hw1]; exact (Kept.refl _ _).alloc _
  have h2 : w1.cell? ⟨q, 0, none⟩ = some (.string s) := by
    rw [hw1, hq]; exact (cell_of_row _ _ 0 _ _ _ (heap_alloc_new w _)).trans rfl
  have HT1 := Lib.hid (hT.kept hk1)
  have HB := Lib.hid (tbelow_any tb L s w1 HT1.out hl)
  have HW := Lib.hid (And.intro hw1 hq)
  have HQ := Lib.hid h2
  have HK1 := Lib.hid hk1
  have HL := Lib.hid hl
  clear hT hw1 hk1 hl hq
  go_enter Try.func44, Try.ntmps44
  go_upto_region 1 with fail
  rw [← HW.out.1, ← HW.out.2]
  go_wp2_with fail
  refine HB.out.mono ?_
  rintro e w2 ⟨z, rfl, hz, k2⟩
  clear h2
  have HZ := Lib.hid hz
  have HK2 := Lib.hid k2
  obtain ⟨ao, cp, hb, hs, hc⟩ := HT1.out.kept k2
  have c0 : w2.cell? ⟨tb, 0, none⟩ = some (.slice ao L.length cp) := by rw [cell_of_row _ _ _ _ _ _ hb]; rfl
  have hzl : z ≤ L.length := hz.1
  obtain ⟨iS, hiS, hzS⟩ := Option.map_eq_some_iff.1 Try.infoStr34
  obtain ⟨ao2, hao2⟩ : ∃ a, a = (if cp = z then ao else ao.map (·.add z)) := ⟨_, rfl⟩
  have s1 : ∀ w, (Instr.slice 49 (.slice ao L.length cp) (some (.int .i64 (z : Int))) none none).run Try.prog w = .ok (.slice ao2 (L.length - z) (cp - z)) w := fun w => by
    rw [hao2]; exact run_cutL (P := Try.prog) Try.underlying49 hiS hzS ao L.length cp z hzl w
  have s2 : ∀ w, (Instr.sliceAt 49 (.slice ao L.length cp) (some (.int .i64 (z : Int))) none none).run Try.prog w = .ok (.slice ao2 (L.length - z) (cp - z)) w := fun w => by
    rw [hao2]; exact run_cutLAt (P := Try.prog) Try.underlying49 hiS hzS ao L.length cp z hzl w
  have hs2 : StrsAt w2 (.slice ao2 (L.length - z) (cp - z)) (L.drop z) := by
    have h := SlAt.cutL hs hzl hc
    rw [← hao2, ← List.map_drop] at h; exact h
  obtain ⟨m, hm⟩ : ∃ m, m = L.length - z := ⟨_, rfl⟩
  obtain ⟨c2, hc2⟩ : ∃ c2, c2 = cp - z := ⟨_, rfl⟩
  obtain ⟨w3, hw3⟩ : ∃ w3, w3 = w2.alloc (.cells #[.slice ao2 m c2] 49) := ⟨_, rfl⟩
  obtain ⟨q6, hq6⟩ : ∃ q6, q6 = w2.heap.size := ⟨_, rfl⟩
  have k3 : Kept (fun _ => False) w2 w3 := by rw [hw3]; exact (Kept.refl _ _).alloc _
  have c6 : w3.cell? ⟨q6, 0, none⟩ = some (.slice ao2 m c2) := by
    rw [hw3, hq6]; exact (cell_of_row _ _ 0 _ _ _ (heap_alloc_new w2 _)).trans rfl
  have T := teller_prefix w3 q6 q c2 z ao2 L s (by rw [← hm]; exact c6) (k3.cell (k2.cell HQ.out (fun x => x)) (fun x => x)) (by rw [← hm, ← hc2] at hs2; rw [← hm]; exact hs2.kept k3)
  have HS := Lib.hid (search_any (L.length - z) _ _ (noPre L z s) w3 (by have := HL.out; omega) T)
  rw [← hm] at HS
  rw [← hm, ← hc2] at s1 s2
  have HM := Lib.hid hm
  have HW3 := Lib.hid (And.intro hw3 hq6)
  have HK3 := Lib.hid k3
  clear hb hs hs2 hc hz k2 k3 hao2 hm hc2 hw3 hq6 T hiS hzS hzl
  go_upto_region 3 with fail
  rw [← HW3.out.1, ← HW3.out.2]
  go_wp2_with fail
  refine HS.out.mono ?_
  rintro e w4 ⟨y, rfl, hy, k4⟩
  have HY := Lib.hid (And.intro hy (HK3.out.trans k4))
  have b1 : z ≤ 1000000 := by have := HZ.out.1; have := HL.out; omega
  have b2 : y ≤ 1000000 := by have := hy.1; have := HM.out; have := HL.out; omega
  clear hy k4 c6 s1 s2 c0
  go_wp2
  go_ret2
  exact ⟨z, y, HZ.out, by rw [← HM.out]; exact HY.out.1, rfl, HK1.out.trans (HK2.out.trans HY.out.2)⟩
end Go.Proofs.Ytkidbbmdlmnokaa
