/- Layer 7: slices of floats; awake. -/
import Derived.Test.YtaagjedkojlbpaaDoorW9
import Derived.Test.YtaagjedkojlbpaaDoorW10
import Derived.Test.YtaagjedkojlbpaaDoorL3
namespace Go.Proofs.YtaagjedkojlbpaaDoor
open Go.RowKit
attribute [local go_sem ↓] Go.wp_at_zero Go.wp_at_succ

theorem Tryd.infoU64 : (Tryd.prog.info? 28).map (fun i => (i.zero, i.size, i.bytes)) = some (some (.int .u64 0), 1, 8) := by kernel_rfl
theorem wpList_mineU {ops : Array Oper} {rest : List Oper} {o : Oper} {a : Act} {Q : Exit → Act → World → Prop} {w : World} (hgd : o.guard = none) (s x : Operand)
    (ho : o.op = .call { callee := .builtin .append, args := #[s, x], argTypes := #[22, 22] })
    (W : World) (v : Value) (xs : List Value) (hv : a.eval s = v) (hm : Mine W w 28 v xs)
    (y : Value) (news : List Value) (hy : a.eval x = y) (hs : Src Tryd.prog 1 22 y news.length news w)
    (hl : xs.length + news.length ≤ 1000000000000)
    (h : ∀ v' w', Mine W w' 28 v' (xs ++ news) → wpList Tryd.prog ops Q rest (a.put o.dst v') w') : wpList Tryd.prog ops Q (o :: rest) a w := by
  obtain ⟨iI, hiI, hzI0, hzI1, hzI2⟩ := info_parts Tryd.infoU64
  exact wpList_mine hgd s x _ _ ho 28 iI (.int .u64 0) 8 Tryd.underlying22 hiI hzI0 hzI1 hzI2 rfl (by omega) W v xs hv hm y news hy hs hl h
theorem src_oneU (w : World) (u : Value) (hu : u.oneCell' = true) : Src Tryd.prog 1 22 (.slice (some ⟨w.heap.size, 0, none⟩) 1 1) ([u] : List Value).length [u] (w.alloc (.cells #[u] 28)) := src_one w Tryd.underlying22 u hu
theorem xvals_append (a b : List Nat) : xvals (a ++ b) = xvals a ++ xvals b := by simp [xvals]
theorem slAt_two (w : World) (x y : Value) (T : TypeId) : SlAt (w.alloc (.cells #[x, y] T)) (.slice (some ⟨w.heap.size, 0, none⟩) 2 2) [x, y] := by
  refine ⟨some ⟨w.heap.size, 0, none⟩, 2, rfl, (fun e => by cases e), ?_⟩
  intro a ha j u hu
  cases ha
  have hc := fun i => cell_of_row _ w.heap.size i _ _ _ (heap_alloc_new w (.cells #[x, y] T))
  match j, hu with
  | 0, hu => cases hu; exact (hc 0).trans rfl
  | 1, hu => cases hu; exact (hc 1).trans rfl

/-- A writer and a row into which the first floats of a list were put. -/
def RX (W w : World) (p r : Nat) (v : Value) (l : List Nat) (k : Nat) : Prop := WX W w p r v (rowX l k) k (lastN l k) (winX l k).1 (winX l k).2
theorem RX.on {W w w' : World} {p r : Nat} {v : Value} {l : List Nat} {k : Nat} (h : RX W w p r v l k) (hk : Kept (fun _ => False) w w') : RX W w' p r v l k := WX.on h hk
theorem rx_put (W w : World) (p r : Nat) (v : Value) (l : List Nat) (k x : Nat) (hb : ∀ x ∈ l, x < 18446744073709551616) (h : RX W w p r v l k) (HT : BruTab W) (hk : k ≤ 1000000) (hx : x = l.getD k 0) :
    Calls Tryd.prog 37 #[.pointer (some ⟨r, 0, none⟩), .pointer (some ⟨p, 0, none⟩), .int .u64 (x : Int)] w fun e w' => e = .returned (.tuple #[]) ∧ ∃ v', RX W w' p r v' l (k + 1) := by
  subst hx
  have hl := rowX_length hb k
  refine (xrowPutW W w p r v _ k _ _ _ _ h HT (winX_ok hb k) hk (lastN_lt hb k) (getN_lt hb k) (by omega)).mono ?_
  rintro e w' ⟨rfl, v', h'⟩
  refine ⟨rfl, v', ?_⟩
  unfold RX
  rw [lastN_succ]
  exact h'

def aw7 : List Nat := [4607182418800017408, 4607182418800017408, 4611686018427387904]
theorem aw7_lt : ∀ x ∈ aw7, x < 18446744073709551616 := by intro x hx; simp only [aw7, List.mem_cons, List.not_mem_nil, or_false] at hx; omega
theorem aw7_len : (rowX aw7 3).length = 89 := by decide +kernel
theorem aw7_len2 : (rowX [1, 1] ([1, 1] : List Nat).length).length = 65 := by decide +kernel

set_option maxHeartbeats 4000000 in
set_option maxRecDepth 100000 in
theorem awake7_any (w : World) (HT : BruTab w) :
    Calls Tryd.prog 34 #[] w fun e w' => e = .returned (.bool true) ∧ Kept (fun _ => False) w w' := by
  have HTT := Lib.hid HT
  have HCO := Lib.hid fun w' (h : Kept (fun _ => False) w w') => xcost_any _ [1, 1] (w'.alloc (.cells #[.int .u64 1, .int .u64 1] 28)) (slAt_two w' (.int .u64 1) (.int .u64 1) 28) (by decide) (by decide) (HT.kept (h.alloc _))
  rw [aw7_len2] at HCO
  clear HT
  go_enter Tryd.func34, Tryd.ntmps34
  go_wp2_with fail
  refine (bnew_any w).mono ?_
  rintro e w1 ⟨rfl, hw1⟩
  have H0 := bnew_at w.heap.size w (Nat.le_refl _)
  rw [← hw1] at H0
  have K1 : Kept (fun _ => False) w w1 := by rw [hw1]; exact (Kept.refl _ _).alloc _
  clear hw1
  go_wp2_with fail
  refine (xnewRow_any w1).mono ?_
  rintro e w2 ⟨rfl, hr, K2⟩
  have HH : RX w w2 w.heap.size w1.heap.size (.slice none 0 0) aw7 0 := ⟨H0.keptF K2, hr, K1.size, K1.trans K2⟩
  obtain ⟨r, hr1⟩ : ∃ r, r = w1.heap.size := ⟨_, rfl⟩
  obtain ⟨p, hp1⟩ : ∃ p, p = w.heap.size := ⟨_, rfl⟩
  have HH' : RX w w2 p r (.slice none 0 0) aw7 0 := by rw [hp1, hr1]; exact HH
  rw [← hr1, ← hp1]
  have HP0 := Lib.hid HH'
  clear hr K1 K2 H0 hr1 hp1 HH HH'
  go_wp2_with fail
  refine (rx_put w w2 p r _ aw7 0 4607182418800017408 aw7_lt HP0.out HTT.out (by decide) rfl).mono ?_
  rintro e w3 ⟨rfl, v3, h3⟩
  have HP1 := Lib.hid h3
  clear h3
  go_wp2_with fail
  refine (rx_put w w3 p r _ aw7 1 4607182418800017408 aw7_lt HP1.out HTT.out (by decide) rfl).mono ?_
  rintro e w4 ⟨rfl, v4, h4⟩
  have HP2 := Lib.hid h4
  clear h4
  go_wp2_with fail
  refine (rx_put w w4 p r _ aw7 2 4611686018427387904 aw7_lt HP2.out HTT.out (by decide) rfl).mono ?_
  rintro e w5 ⟨rfl, v5, h5⟩
  have HP3 := Lib.hid h5
  clear h5
  have hlen := bwlen_any _ _ _ _ _ HP3.out.bw
  rw [aw7_len] at hlen
  have HL := Lib.hid hlen
  have HN := Lib.hid (xrowLen_any _ _ _ _ _ _ HP3.out.row)
  clear hlen
  go_wp2_with fail
  refine HL.out.mono ?_
  rintro e w' ⟨rfl, rfl⟩
  go_wp2_with fail
  refine HN.out.mono ?_
  rintro e w' ⟨rfl, rfl⟩
  go_wp2_with fail
  refine (HCO.out _ HP3.out.kept).mono ?_
  rintro e w6 ⟨rfl, k6⟩
  have K6 := Lib.hid ((HP3.out.kept.alloc _).trans k6)
  clear k6
  go_wp2
  go_ret
  exact ⟨rfl, K6.out⟩
end Go.Proofs.YtaagjedkojlbpaaDoor
