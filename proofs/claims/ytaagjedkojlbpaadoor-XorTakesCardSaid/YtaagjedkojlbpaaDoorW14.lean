/- package limnographref07: row, in, around, last, with. -/
import Derived.Test.YtaagjedkojlbpaaDoorW11
import Derived.Test.YtaagjedkojlbpaaDoorV10
namespace Go.Proofs.YtaagjedkojlbpaaDoor
open Go.RowKit
attribute [local go_sem ↓] Go.wp_at_zero Go.wp_at_succ

theorem bit64 (x i : Nat) (hi : i < 64) : ((bitsN x 64).getD i false) = x.testBit (63 - i) := by rw [bitsN_getD]; simp [hi]
theorem ints64 (x i : Nat) (hi : i < 64) : (ints (bitsN x 64))[i]? = some (.int .i64 (((x.testBit (63 - i)).toNat : Nat) : Int)) := by
  rw [ints_get (by rw [bitsN_length]; exact hi), bit64 x i hi]

/-- A window, bit by bit. -/
theorem inW_iff (f s x : Nat) (hx : x < 18446744073709551616) (hfs : f + s ≤ 64) : inW f s x ↔ ∀ i, i < 64 → x.testBit (63 - i) = true → f ≤ i ∧ i < f + s := by
  constructor
  · rintro ⟨h1, h2⟩ i hi hb
    constructor
    · refine Nat.le_of_not_lt fun h => ?_
      rw [lz_bits x i hx (by omega)] at hb; cases hb
    · refine Nat.lt_of_not_le fun h => ?_
      rw [tz_bits x (63 - i) hx (by omega)] at hb; cases hb
  · intro h
    by_cases h0 : x = 0
    · subst h0
      refine ⟨by rw [lz_zero]; omega, by rw [tz_zero]; omega⟩
    · have hl := lz_spec x hx h0
      have ht := tz_spec x hx h0
      have h1 := h (lzN x) (by omega) (lz_bit x hx h0)
      have h2 := h (63 - tzN x) (by omega) (by rw [show 63 - (63 - tzN x) = tzN x by omega]; exact tz_bit x hx h0)
      exact ⟨h1.1, by omega⟩

set_option maxHeartbeats 1000000 in
theorem rrow_any (x : Nat) (hx : x < 18446744073709551616) (w : World) :
    Calls Tryd.prog 61 #[.int .u64 (x : Int)] w fun e w' => ∃ a c, e = .returned (.slice a 64 c) ∧ Mine w w' 3 (.slice a 64 c) (ints (bitsN x 64)) := by
  have HR := Lib.hid (row_of x 64 (by omega) hx w)
  go_enter Tryd.func61, Tryd.ntmps61
  go_wp2_with fail
  refine HR.out.mono ?_
  rintro e w1 ⟨a, c, b, rfl, ho, hk⟩
  have HM := Lib.hid (Mine.ofFresh ho hk)
  clear ho hk
  go_wp2
  go_ret
  exact ⟨_, _, rfl, HM.out⟩

set_option maxHeartbeats 4000000 in
set_option maxRecDepth 100000 in
theorem rin_any (v : Value) (f s x : Nat) (w : World) (hv : SlAt w v (ints (bitsN x 64))) (hx : x < 18446744073709551616) (hf : f ≤ 64) (hfs : f + s ≤ 64) :
    Calls Tryd.prog 64 #[v, winV f s] w fun e w' => e = .returned (.bool (decide (0 < s ∧ inW f s x))) ∧ Kept (fun _ => False) w w' := by
  obtain ⟨ao, ca, rfl, hvr⟩ := hv.val
  clear hvr
  rw [ints_length, bitsN_length] at hv ⊢
  have hiff := inW_iff f s x hx hfs
  unfold winV
  have k0 := (Kept.refl (fun _ => False) w).alloc (.cells #[.int .i64 (f : Int), .int .i64 (s : Int)] 61)
  have hb : (w.alloc (.cells #[.int .i64 (f : Int), .int .i64 (s : Int)] 61)).heap[w.heap.size]? = some (.cells #[.int .i64 (f : Int), .int .i64 (s : Int)] 61 (0, 0)) := heap_alloc_new w _
  have c0 : (w.alloc (.cells #[.int .i64 (f : Int), .int .i64 (s : Int)] 61)).cell? ⟨w.heap.size, 0, none⟩ = some (.int .i64 (f : Int)) := by rw [cell_of_row _ _ 0 _ _ _ hb]; rfl
  have c1 : (w.alloc (.cells #[.int .i64 (f : Int), .int .i64 (s : Int)] 61)).cell? ⟨w.heap.size, 1, none⟩ = some (.int .i64 (s : Int)) := by rw [cell_of_row _ _ 1 _ _ _ hb]; rfl
  have hv1 := Lib.hid (hv.kept k0 (fun _ _ x => x))
  have HK := Lib.hid k0
  have HIFF := Lib.hid hiff
  obtain ⟨w0, hw0⟩ : ∃ w', w' = w.alloc (.cells #[.int .i64 (f : Int), .int .i64 (s : Int)] 61) := ⟨_, rfl⟩
  rw [← hw0] at hv1 HK c0 c1
  have HW0 := Lib.hid hw0
  have HC := Lib.hid (And.intro c0 c1)
  have afs : IntKind.i64.wrap ((f : Int) + (s : Int)) = ((f + s : Nat) : Int) := by rw [IntWalk.i64_in _ ⟨by omega, by omega⟩]; omega
  obtain ⟨E, hE⟩ : ∃ E, E = f + s := ⟨_, rfl⟩
  rw [← hE] at afs HIFF
  obtain ⟨R, hR⟩ : ∃ R, R = decide (0 < s ∧ inW f s x) := ⟨_, rfl⟩
  rw [← hR]
  have HR := Lib.hid hR
  clear hv hiff k0 hb hw0 c0 c1 hf hfs hE hR
  go_enter Tryd.func64, Tryd.ntmps64
  go_wp2
  rw [← HW0.out]
  go_loopg [5] 64 (fun g s5 wr => ∃ i : Nat, i ≤ 64 ∧ g = 64 - i ∧ s5 = .int .i64 i ∧ wr = w0 ∧ ∀ j, j < i → x.testBit (63 - j) = true → f ≤ j ∧ j < E)
  case atStart => exact ⟨0, Nat.zero_le _, rfl, rfl, rfl, fun j hj => absurd hj (Nat.not_lt_zero j)⟩
  case round =>
    obtain ⟨i, hil, rfl, rfl, rfl, hall⟩ := hrel
    have HALL := Lib.hid hall
    obtain ⟨c0, c1⟩ := HC.out
    clear hall
    by_cases hd : i < 64
    · have hdi : (i : Int) < 64 := by omega
      have hdib : decide (i < 64) = true := decide_eq_true hd
      have i0 : (0 : Int) ≤ (i : Int) := by omega
      have HD := Lib.hid hd
      obtain ⟨g, off, rfl, cb⟩ := hv1.out.elem (ints64 x i hd)
      obtain ⟨b, hbe⟩ : ∃ b, b = x.testBit (63 - i) := ⟨_, rfl⟩
      rw [← hbe] at cb
      have HB := Lib.hid hbe
      clear hd hbe
      cases b with
      | false =>
        have cb0 : wr.cell? ⟨g, off + i, none⟩ = some (.int .i64 0) := cb
        clear cb
        go_wp2
        go_roundg (64 - (i + 1))
        case measure => have := HD.out; omega
        case rel =>
          refine ⟨i + 1, by have := HD.out; omega, rfl, by go_num, rfl, fun j hj hb => ?_⟩
          by_cases hji : j < i
          · exact HALL.out j hji hb
          · obtain rfl : j = i := by omega
            rw [← HB.out] at hb; cases hb
      | true =>
        have cb1 : wr.cell? ⟨g, off + i, none⟩ = some (.int .i64 1) := cb
        clear cb
        by_cases hfi : f ≤ i
        · by_cases hie : i < E
          · have z1 : ¬ (i : Int) < (f : Int) := by omega
            have z1b : decide (i < f) = false := decide_eq_false (by omega)
            have z2 : ¬ (E : Int) ≤ (i : Int) := by omega
            have z2b : decide (E ≤ i) = false := decide_eq_false (by omega)
            have HFI := Lib.hid (And.intro hfi hie)
            clear hfi hie
            go_wp2
            go_roundg (64 - (i + 1))
            case measure => have := HD.out; omega
            case rel =>
              refine ⟨i + 1, by have := HD.out; omega, rfl, by go_num, rfl, fun j hj hb => ?_⟩
              by_cases hji : j < i
              · exact HALL.out j hji hb
              · obtain rfl : j = i := by omega
                exact HFI.out
          · have z1 : ¬ (i : Int) < (f : Int) := by omega
            have z1b : decide (i < f) = false := decide_eq_false (by omega)
            have z2 : (E : Int) ≤ (i : Int) := by omega
            have z2b : decide (E ≤ i) = true := decide_eq_true (by omega)
            have HNO := Lib.hid (show ¬ (0 < s ∧ inW f s x) from fun h => hie (HIFF.out.1 h.2 i HD.out HB.out.symm).2)
            clear hfi hie
            go_wp2
            go_ret
            exact ⟨by rw [HR.out, decide_eq_false HNO.out]; rfl, HK.out⟩
        · have z1 : (i : Int) < (f : Int) := by omega
          have z1b : decide (i < f) = true := decide_eq_true (by omega)
          have HNO := Lib.hid (show ¬ (0 < s ∧ inW f s x) from fun h => hfi (HIFF.out.1 h.2 i HD.out HB.out.symm).1)
          clear hfi
          go_wp2
          go_ret
          exact ⟨by rw [HR.out, decide_eq_false HNO.out]; rfl, HK.out⟩
    · obtain rfl : i = 64 := by omega
      have HYES := Lib.hid (HIFF.out.2 fun j hj hb => HALL.out j hj hb)
      clear hd
      go_wp2
      go_ret
      refine ⟨?_, HK.out⟩
      have e : decide (0 < s ∧ inW f s x) = decide (0 < s) := by rw [decide_eq_decide]; exact ⟨fun h => h.1, fun h => ⟨h, HYES.out⟩⟩
      rw [HR.out, e]
      by_cases h0 : 0 < s
      · simp [h0]
      · simp [h0]

theorem WinR.new (w : World) (f s : Int) : (w.alloc (.cells #[.int .i64 f, .int .i64 s] 61)).heap[w.heap.size]? = some (.cells #[.int .i64 f, .int .i64 s] 61 (0, 0)) := heap_alloc_new w _
theorem winr_info : (Tryd.prog.info? 61).map (·.size) = some 2 := by kernel_rfl
/-- A window of the document in its block. -/
def WinR (w : World) (q : Nat) (f s : Int) : Prop := w.heap[q]? = some (.cells #[.int .i64 f, .int .i64 s] 61 (0, 0))
theorem WinR.c {w : World} {q : Nat} {f s : Int} (b : WinR w q f s) : w.cell? ⟨q, 0, none⟩ = some (.int .i64 f) ∧ w.cell? ⟨q, 1, none⟩ = some (.int .i64 s) := by
  have h := fun i => cell_of_row w q i _ _ _ b
  refine ⟨?_, ?_⟩ <;> (rw [h]; rfl)
theorem WinR.f {w : World} {q : Nat} {f s : Int} (b : WinR w q f s) (i : Nat) : w.frozen? ⟨q, i, none⟩ = false := by
  unfold WinR at b; simp [World.frozen?, b]
theorem WinR.same {S : Nat → Prop} {w w' : World} {q : Nat} {f s : Int} (b : WinR w q f s) (hk : Kept S w w') (hn : ¬ S q) : WinR w' q f s := hk.same b hn
theorem WinR.set {w : World} {q : Nat} {f s : Int} (b : WinR w q f s) (f' s' : Int) : WinR (set2 w q (.int .i64 f') (.int .i64 s')) q f' s' := by
  unfold WinR set2 at *; simp [World.setCell, Array.getElem?_modify, b]
theorem winr_end {fn : Func} {p : Tmp} {a : Act} {P : Ending → World → Prop} {w : World} {q : Nat} {f s : Int} (hres : fn.results = #[.cell p 61]) (hp : a.tmps.getD p undef = .pointer (some ⟨q, 0, none⟩)) (hd : a.defers = [])
    (hg : WinR w q f s) (h : P (.returned (.agg #[.int .i64 f, .int .i64 s])) w) : bodyPost Tryd.prog fn P .ret a w :=
  bodyPost_ret (v := .agg #[.int .i64 f, .int .i64 s]) (results_cell_row hres _ _ q 61 _ (0, 0) _ hp hg Tryd.underlying61 rfl winr_info) hd h

set_option maxHeartbeats 4000000 in
set_option maxRecDepth 100000 in
theorem raround_any (v : Value) (x : Nat) (w : World) (hv : SlAt w v (ints (bitsN x 64))) (hx : x < 18446744073709551616) (h0 : x ≠ 0) :
    Calls Tryd.prog 65 #[v] w fun e w' => e = .returned (winV (newF x) (newS x)) ∧ Kept (fun _ => False) w w' := by
  obtain ⟨ao, ca, rfl, hvr⟩ := hv.val
  clear hvr
  rw [ints_length, bitsN_length] at hv ⊢
  have hno := new_ok x hx h0
  have hF : newF x = min (lzN x) 31 := rfl
  have hlz : ∀ i, i < newF x → x.testBit (63 - i) = false := fun i hi => lz_bits x i hx (by omega)
  have hlb : newF x < 31 → x.testBit (63 - newF x) = true := fun h => by have := lz_bit x hx h0; rw [show newF x = lzN x by omega]; exact this
  have htz : ∀ e, newF x + newS x < e → e ≤ 64 → x.testBit (63 - (e - 1)) = false := fun e h1 h2 => tz_bits x _ hx (by omega)
  have htb : x.testBit (63 - (newF x + newS x - 1)) = true := by have := tz_bit x hx h0; rw [show 63 - (newF x + newS x - 1) = tzN x by omega]; exact this
  unfold winV
  obtain ⟨F, hFe⟩ : ∃ F, F = newF x := ⟨_, rfl⟩
  obtain ⟨S, hSe⟩ : ∃ S, S = newS x := ⟨_, rfl⟩
  rw [← hFe] at hno hlz hlb htz htb ⊢
  rw [← hSe] at hno htz htb ⊢
  have k0 := (Kept.refl (fun _ => False) w).alloc (.cells #[.int .i64 0, .int .i64 0] 61)
  have hb := WinR.new w 0 0
  obtain ⟨w0, hw0⟩ : ∃ w', w' = w.alloc (.cells #[.int .i64 0, .int .i64 0] 61) := ⟨_, rfl⟩
  rw [← hw0] at k0 hb
  have HW0 := Lib.hid hw0
  have HK := Lib.hid k0
  have HWB := Lib.hid (show WinR w0 w.heap.size 0 0 from hb)
  have HV := Lib.hid (hv.kept k0 (fun _ _ x => x))
  have HLZ := Lib.hid hlz
  have HLB := Lib.hid hlb
  have HTZ := Lib.hid htz
  have HTB := Lib.hid htb
  have HNO := Lib.hid hno
  have hz := (HV.out.elem (ints64 x 0 (by decide)))
  obtain ⟨g, off, rfl, hz0⟩ := hz
  have HC : Hid (∀ i, i < 64 → w0.cell? ⟨g, off + i, none⟩ = some (.int .i64 (((x.testBit (63 - i)).toNat : Nat) : Int))) := Lib.hid fun i hi => by
    obtain ⟨g', off', e, hc⟩ := HV.out.elem (ints64 x i hi)
    cases e; exact hc
  clear hv k0 hb hw0 hlz hlb htz htb hno hF hFe hSe hz0 h0
  go_enter Tryd.func65, Tryd.ntmps65
  go_wp2
  rw [← HW0.out]
  go_loopg [3] 32 (fun g3 s3 wr => ∃ i : Nat, i ≤ F ∧ g3 = 32 - i ∧ s3 = .int .i64 i ∧ wr = w0)
  case atStart => exact ⟨0, Nat.zero_le _, rfl, rfl, rfl⟩
  case round =>
    obtain ⟨i, hil, rfl, rfl, hwr⟩ := hrel
    have hwr' := hwr.symm
    subst hwr'
    clear hwr
    have hn := HNO.out
    by_cases hd : i < F
    · have hdi : (i : Int) < 31 := by omega
      have hdib : decide (i < 31) = true := decide_eq_true (by omega)
      have i0 : (0 : Int) ≤ (i : Int) := by omega
      have i64 : (i : Int) < 64 := by omega
      have i64b : i < 64 := by omega
      have cb := HC.out i (by omega)
      rw [HLZ.out i hd] at cb
      have cb0 : w0.cell? ⟨g, off + i, none⟩ = some (.int .i64 0) := cb
      have HD := Lib.hid (And.intro hd hn)
      clear hd cb hn
      go_wp2
      go_roundg (32 - (i + 1))
      case measure => have := HD.out; omega
      case rel => exact ⟨i + 1, HD.out.1, rfl, by go_num, rfl⟩
    · obtain rfl : i = F := by omega
      clear hd
      by_cases h31 : i < 31
      · have hdi : (i : Int) < 31 := by omega
        have i0 : (0 : Int) ≤ (i : Int) := by omega
        have i64 : (i : Int) < 64 := by omega
        have i64b : i < 64 := by omega
        have cb := HC.out i (by omega)
        rw [HLB.out h31] at cb
        have cb1 : w0.cell? ⟨g, off + i, none⟩ = some (.int .i64 1) := cb
        clear cb hn
        go_wp2
        go_loopg [4] (1 + 64) (fun g4 s4 wr => ∃ e : Nat, i + S ≤ e ∧ e ≤ 64 ∧ g4 = 1 + e ∧ s4 = .int .i64 e ∧ wr = w0)
        case atStart => exact ⟨64, by have := HNO.out; omega, Nat.le_refl _, rfl, rfl, rfl⟩
        case round =>
          obtain ⟨e, he1, he2, rfl, rfl, hwr⟩ := hrel
          have hwr' := hwr.symm
          subst hwr'
          clear hwr
          have hn := HNO.out
          obtain ⟨d, rfl⟩ : ∃ d, e = d + 1 := ⟨e - 1, by omega⟩
          have d1 : (i : Int) < (d : Int) + 1 := by omega
          have d1b : decide (i < d + 1) = true := decide_eq_true (by omega)
          have t1 : IntKind.i64.wrap (d : Int) = (d : Int) := IntWalk.i64_in _ ⟨by omega, by omega⟩
          have d0 : (0 : Int) ≤ (d : Int) := by omega
          have d64 : (d : Int) < 64 := by omega
          have d64b : d < 64 := by omega
          have cb := HC.out d (by omega)
          by_cases hd2 : i + S < d + 1
          · have hq := HTZ.out (d + 1) hd2 (by omega)
            rw [Nat.add_sub_cancel] at hq
            rw [hq] at cb
            have cb0 : w0.cell? ⟨g, off + d, none⟩ = some (.int .i64 0) := cb
            have HD := Lib.hid (And.intro hd2 d64b)
            clear cb hq hd2 hn he1 he2 d64b
            go_wp2
            go_roundg (1 + d)
            case measure => omega
            case rel => exact ⟨d, by have := HD.out; omega, by have := HD.out; omega, rfl, by go_num, rfl⟩
          · have hed : i + S = d + 1 := by omega
            have hq := HTB.out
            rw [hed, Nat.add_sub_cancel] at hq
            rw [hq] at cb
            have cb1 : w0.cell? ⟨g, off + d, none⟩ = some (.int .i64 1) := cb
            have t2 : IntKind.i64.wrap ((d : Int) + 1 - (i : Int)) = (S : Int) := by rw [IntWalk.i64_in _ ⟨by omega, by omega⟩]; omega
            obtain ⟨z0, z1⟩ := HWB.out.c
            have f0 := HWB.out.f 0
            have f1 := HWB.out.f 1
            clear cb hq hd2 hed hn he1 he2
            go_wp2
            refine winr_end Tryd.results65 rfl rfl (HWB.out.set i S) ⟨rfl, ?_⟩
            exact HK.out.step (set2_kept _ w.heap.size (.int .i64 (i : Int)) (.int .i64 (S : Int))) (fun k hk e => by omega)
      · have hdi : ¬ (i : Int) < 31 := by omega
        go_wp2
        go_loopg [4] (1 + 64) (fun g4 s4 wr => ∃ e : Nat, i + S ≤ e ∧ e ≤ 64 ∧ g4 = 1 + e ∧ s4 = .int .i64 e ∧ wr = w0)
        case atStart => exact ⟨64, by have := HNO.out; omega, Nat.le_refl _, rfl, rfl, rfl⟩
        case round =>
          obtain ⟨e, he1, he2, rfl, rfl, hwr⟩ := hrel
          have hwr' := hwr.symm
          subst hwr'
          clear hwr
          have hn := HNO.out
          obtain ⟨d, rfl⟩ : ∃ d, e = d + 1 := ⟨e - 1, by omega⟩
          have d1 : (i : Int) < (d : Int) + 1 := by omega
          have d1b : decide (i < d + 1) = true := decide_eq_true (by omega)
          have t1 : IntKind.i64.wrap (d : Int) = (d : Int) := IntWalk.i64_in _ ⟨by omega, by omega⟩
          have d0 : (0 : Int) ≤ (d : Int) := by omega
          have d64 : (d : Int) < 64 := by omega
          have d64b : d < 64 := by omega
          have cb := HC.out d (by omega)
          by_cases hd2 : i + S < d + 1
          · have hq := HTZ.out (d + 1) hd2 (by omega)
            rw [Nat.add_sub_cancel] at hq
            rw [hq] at cb
            have cb0 : w0.cell? ⟨g, off + d, none⟩ = some (.int .i64 0) := cb
            have HD := Lib.hid (And.intro hd2 d64b)
            clear cb hq hd2 hn he1 he2 d64b
            go_wp2
            go_roundg (1 + d)
            case measure => omega
            case rel => exact ⟨d, by have := HD.out; omega, by have := HD.out; omega, rfl, by go_num, rfl⟩
          · have hed : i + S = d + 1 := by omega
            have hq := HTB.out
            rw [hed, Nat.add_sub_cancel] at hq
            rw [hq] at cb
            have cb1 : w0.cell? ⟨g, off + d, none⟩ = some (.int .i64 1) := cb
            have t2 : IntKind.i64.wrap ((d : Int) + 1 - (i : Int)) = (S : Int) := by rw [IntWalk.i64_in _ ⟨by omega, by omega⟩]; omega
            obtain ⟨z0, z1⟩ := HWB.out.c
            have f0 := HWB.out.f 0
            have f1 := HWB.out.f 1
            clear cb hq hd2 hed hn he1 he2
            go_wp2
            refine winr_end Tryd.results65 rfl rfl (HWB.out.set i S) ⟨rfl, ?_⟩
            exact HK.out.step (set2_kept _ w.heap.size (.int .i64 (i : Int)) (.int .i64 (S : Int))) (fun k hk e => by omega)
end Go.Proofs.YtaagjedkojlbpaaDoor
