/- package glob, layer 32: nextSet, next (written by tools/gen_XD8.py). -/
import Derived.Test.YtjbjfdmdicfjfaaD7
import Derived.Test.YtjbjfdmdicfjfaaRS
import Derived.Test.YtjbjfdmdicfjfaaGR
namespace Go.Proofs.Ytjbjfdmdicfjfaa
open Go.RowKit
attribute [local go_sem ↓] Go.wp_at_zero Go.wp_at_succ

theorem piece_info (P : PcR) : (Try.prog.info? 45).map (·.size) = some (cellsPc P).toArray.size := by
  have e : (Try.prog.info? 45).map (·.size) = some 6 := by kernel_rfl
  rw [e]; rfl
theorem cfPc : Cf cellsPc 6 := ⟨fun _ => rfl, fun P u hu => by simp [cellsPc] at hu; rcases hu with rfl | rfl | rfl | rfl | rfl | rfl <;> rfl⟩
theorem piece_all (P : PcR) : (cellsPc P).toArray.all (·.oneCell') = true := by
  rw [Array.all_eq_true_iff_forall_mem]
  intro v hv
  exact cfPc.one P v (by simpa using hv)
def zeroPc : PcR := ⟨⟨0, 0, noF⟩, 0, 0, 0, 0⟩
theorem kept_row {w w0 : World} {g : Nat} {cs : Array Value} (hk : Kept (fun _ => False) w w0) (hg : w.heap.size ≤ g) : Kept (fun _ => False) w (w0.setRow g cs) :=
  ⟨hk.os, hk.tape, hk.output, by simpa using hk.size, fun k hk2 hn => by rw [setRow_other _ _ _ _ (by omega)]; exact hk.block k hk2 hn⟩
theorem pcs_set4 {w : World} {g : Nat} {a b c d : Nat} (h : w.heap[g]? = some (.cells (pcs [a, b, c, d]) 45 (0, 0))) (na nb nc nd : Nat) :
    ((((w.setCell ⟨g, 2, none⟩ (.int .u64 (na : Int))).setCell ⟨g, 3, none⟩ (.int .u64 (nb : Int))).setCell ⟨g, 4, none⟩ (.int .u64 (nc : Int))).setCell ⟨g, 5, none⟩ (.int .u64 (nd : Int))).heap[g]? = some (.cells (pcs [na, nb, nc, nd]) 45 (0, 0)) := by
  have h1 := heap_setCell_same _ g 2 _ _ (.int .u64 (na : Int)) h
  have h2 := heap_setCell_same _ g 3 _ _ (.int .u64 (nb : Int)) h1
  have h3 := heap_setCell_same _ g 4 _ _ (.int .u64 (nc : Int)) h2
  have h4 := heap_setCell_same _ g 5 _ _ (.int .u64 (nd : Int)) h3
  exact h4
theorem words4 {V : List Nat} {f : Nat → Bool} (h : Wd V f) : ∃ a b c d, V = [a, b, c, d] := by
  have := h.len
  match V, this with
  | [a, b, c, d], _ => exact ⟨a, b, c, d, rfl⟩

set_option maxHeartbeats 4000000 in
set_option maxRecDepth 100000 in
theorem nextSet_any (s : ByteArray) (w : World) (h0 : 0 < s.size) (hs : s.size ≤ 1000000) :
    Calls Try.prog 21 #[.string s] w fun e w' => NxTo (setL (bl s)) e ∧ Kept (fun _ => False) w w' := by
  have HE := Lib.hid (fun w => endOf_any s w h0 hs)
  have HS := Lib.hid hs
  obtain ⟨w1, hw1⟩ : ∃ w1, w1 = w.alloc (.cells (cellsPc zeroPc).toArray 45) := ⟨_, rfl⟩
  have hb1 : w1.heap[w.heap.size]? = some (.cells (cellsPc zeroPc).toArray 45 (0, 0)) := by rw [hw1]; exact heap_alloc_new w _
  have hk1 : Kept (fun _ => False) w w1 := by rw [hw1]; exact (Kept.refl _ _).alloc _
  have hz1 : w.heap.size < w1.heap.size := by rw [hw1]; simp
  have HB1 := Lib.hid hb1
  have HK1 := Lib.hid hk1
  have HZ1 := Lib.hid hz1
  have HW1 : Hid (w.alloc (.cells #[.int .i64 0, .int .u8 0, .int .u64 0, .int .u64 0, .int .u64 0, .int .u64 0] 45) = w1) := Lib.hid hw1.symm
  obtain ⟨rb, hrb⟩ : ∃ rb, rb = w.heap.size := ⟨_, rfl⟩
  have HRB := Lib.hid hrb
  clear hw1 hb1 hk1 hz1 hs
  have hSL := setL.eq_def (bl s)
  have HSL := Lib.hid hSL
  clear hSL
  go_enter Try.func21, Try.ntmps21
  go_upto_region 1 with fail
  rw [HW1.out, ← hrb]
  rw [← hrb] at HB1 HZ1
  clear hrb
  go_wp2_with fail
  refine (HE.out _).mono ?_
  rintro e w' ⟨⟨x, b, rfl, hE⟩, rfl⟩
  rcases hE with ⟨n, hn, rfl, rfl⟩ | ⟨hn, rfl⟩
  · have hlt := endL_lt hn
    rw [List.length_drop, bl_length] at hlt
    have HN := Lib.hid hn
    rw [hn] at HSL
    obtain ⟨E, hE⟩ : ∃ E, E = 1 + n := ⟨_, rfl⟩
    have hEs : E < s.size := by omega
    have hEE : E - 1 = n := by omega
    rw [← hEE] at HN
    rw [← hE]
    simp only [← hE] at HSL
    have hE1 : 1 ≤ E := by omega
    have hS1 : ∀ w, (Instr.index 9 (.string s) (.int .i64 1)).run Try.prog w = .ok (.int .u8 (chr s 1 : Int)) w := fun w => run_chr Try.underlying9 s 1 (by omega) w
    have HP := Lib.hid (fun i (hi : i ≤ E) w => run_part (P := Try.prog) Try.underlying9 s i E hi (by omega) w)
    have HSE := Lib.hid hEs
    clear hE hEE hlt hn
    obtain ⟨c1, hc1⟩ : ∃ c, c = chr s 1 := ⟨_, rfl⟩
    have hg1 : (bl s).getD 1 0 = c1 := by rw [bl_getD, hc1]
    rw [← hc1] at hS1
    have HG1 := Lib.hid hg1
    clear hc1 hg1
    by_cases h33 : c1 = 33
    · subst h33
      have hF : setFrom (bl s) = 2 := by unfold setFrom; rw [HG1.out]; rfl
      rw [hF, HG1.out] at HSL
      simp only [if_true] at HSL
      have hal2 : 2 ≤ E ∧ endL ((bl s).drop 2) = some (E - 2) := by
        have hst := step_at (l := bl s) (i := 1) HN.out
        by_cases he : 1 < E
        · have hst := hst he
          have hk : (byteL ((bl s).drop 1)).2 = 1 := by rw [byteL_2, getD_drop, show 1 + 0 = 1 from rfl, HG1.out]; rfl
          rw [hk] at hst
          exact ⟨hst.1, hst.2.1⟩
        · exfalso
          have e1 : E = 1 := by omega
          have := HN.out
          rw [e1, drop_cons (by rw [bl_length]; omega), HG1.out] at this
          unfold endL at this
          simp at this
      obtain ⟨hE2, hA⟩ := hal2
      have HA := Lib.hid hA
      clear hF hA hE1
      by_cases heq : E = 2
      · have q1 : ((2 : Int) == (E : Int)) = true := by simp; omega
        have HX : Hid (setL (bl s) = .bad 0 3) := Lib.hid (by rw [HSL.out, if_pos heq.symm])
        have q2 : decide ((E : Int) = 2) = true := decide_eq_true (by omega)
        clear heq hE2 hEs
        go_wp2_with (refine wpList_store_row rfl 45 (.tmp 2) _ rfl rb (cellsPc zeroPc).toArray rfl rfl 45 (cellsPc zeroPc).toArray HB1.out (piece_info _) rfl (piece_all _) ?_)
        refine bodyPost_ret (results_ctt Try.results21 _ _ rb 45 _ (0, 0) _ rfl (setRow_heap _ _ _ _ _ _ HB1.out) Try.underlying45 rfl (piece_info zeroPc)) rfl ?_
        exact ⟨⟨zeroPc, 0, 3, rfl, by rw [HX.out]; exact ⟨rfl, rfl⟩⟩, kept_row HK1.out (by have := HRB.out; omega)⟩
      · have q1 : ((2 : Int) == (E : Int)) = false := by simp; omega
        have HSL2 := Lib.hid (HSL.out.trans (if_neg (fun e => heq e.symm)))
        have HE2 := Lib.hid hE2
        clear heq hE2
        go_upto_region 11 with fail
        obtain ⟨pb, hpb⟩ : ∃ pb, pb = w1.heap.size := ⟨_, rfl⟩
        rw [← hpb]
        obtain ⟨w2, hw2⟩ : ∃ w2, w2 = w1.alloc (.cells #[.int .i64 2, .int .u8 0, .int .u64 0, .int .u64 0, .int .u64 0, .int .u64 0] 45) := ⟨_, rfl⟩
        rw [← hw2]
        have hb2 : w2.heap[pb]? = some (.cells (pcs [0, 0, 0, 0]) 45 (0, 0)) := by rw [hw2, hpb]; exact heap_alloc_new w1 _
        have hk2 : Kept (fun _ => False) w1 w2 := by rw [hw2]; exact (Kept.refl _ _).alloc _
        have hr2 : w2.heap[rb]? = some (.cells (cellsPc zeroPc).toArray 45 (0, 0)) := hk2.same HB1.out (fun x => x)
        have I0 := Lib.hid (And.intro hb2 (And.intro hr2 (HK1.out.trans hk2)))
        have hpr : rb ≠ pb := by have := HZ1.out; omega
        have HPR := Lib.hid (And.intro hpr (show w.heap.size ≤ pb by have := HK1.out.size; omega))
        clear hb2 hk2 hr2 hw2 hpb hpr q1 hS1
        go_loopg [7] (E - 2) (fun G s7 wr => ∃ i : Nat, i ≤ E ∧ G = E - i ∧ s7 = .int .i64 i ∧ ∃ V f, Wd V f ∧ wr.heap[pb]? = some (.cells (pcs V) 45 (0, 0)) ∧ wr.heap[rb]? = some (.cells (cellsPc zeroPc).toArray 45 (0, 0)) ∧ Kept (fun _ => False) w wr ∧ endL ((bl s).drop i) = some (E - i) ∧ thingsA (((bl s).take E).drop 2) noF 2 = thingsA (((bl s).take E).drop i) f i)
        case atStart => exact ⟨2, HE2.out, rfl, rfl, _, _, Wd.zero, I0.out.1, I0.out.2.1, I0.out.2.2, HA.out, rfl⟩
        case round =>
          obtain ⟨i, hiE, rfl, rfl, V, f, hV, hpbx, hrbx, hk, hal, hth⟩ := hrel
          have HV := Lib.hid hV
          have HPX := Lib.hid hpbx
          have HRX := Lib.hid hrbx
          have HKR := Lib.hid hk
          have HAL := Lib.hid hal
          have HTH := Lib.hid hth
          clear hV hpbx hrbx hk hal hth I0
          by_cases hd : i < E
          · have hdi : (i : Int) < (E : Int) := by omega
            have hdi' : decide (i < E) = true := decide_eq_true hd
            have hsl := fun w => HP.out i (by omega) w
            have hins : bl (s.extract i E) = ((bl s).take E).drop i := bl_extract s i E
            have hine : ((bl s).take E).drop i ≠ [] := fun e => by
              have := congrArg List.length e
              rw [inside_len (by rw [bl_length]; omega)] at this
              simp at this; omega
            have hins2 := inside_len (l := bl s) (i := i) (E := E) (by rw [bl_length]; omega)
            have HT := Lib.hid (fun w => thing_any (s.extract i E) w (by rw [size_cut _ _ _ (by omega)]; omega) (by rw [size_cut _ _ _ (by omega)]; have := HS.out; omega) (by
              rw [hins, inside_byte hd, size_cut _ _ _ (by omega)]
              have := step_at HAL.out hd
              omega))
            rw [hins] at HT
            obtain ⟨t, ht⟩ : ∃ t, t = s.extract i E := ⟨_, rfl⟩
            rw [← ht] at HT hsl
            have HINE := Lib.hid hine
            have HBY := Lib.hid (show ∀ x ∈ ((bl s).take E).drop i, x < 256 from fun x hx => bl_lt (List.mem_of_mem_take (List.mem_of_mem_drop hx)))
            have hi0 : (0 : Int) ≤ (i : Int) := by omega
            have hiE2 : (i : Int) ≤ (E : Int) := by omega
            have hES2 : (E : Int) ≤ (s.size : Int) := by have := HSE.out; omega
            clear ht hins hine hins2
            go_wp2_with fail
            refine (HT.out _).mono ?_
            rintro e w' ⟨⟨a, b, k, ok, rfl, hr⟩, rfl⟩
            rcases hr with ⟨hr, rfl⟩ | ⟨hr, rfl⟩
            · have hlt := thing_lt HBY.out hr
              have hst := align_step HAL.out hd hr
              have hthn := thingsA_step f i HINE.out hr
              rw [List.drop_drop] at hthn
              have HLT := Lib.hid hlt
              have HST := Lib.hid hst
              have HTN := Lib.hid (HTH.out.trans hthn)
              have hkp := thingL_pos hr
              have wi : IntKind.i64.wrap ((i : Int) + (k : Int)) = ((i + k : Nat) : Int) := by rw [IntWalk.i64_in _ ⟨by omega, by have := HS.out; omega⟩]; omega
              have HKP := Lib.hid hkp
              clear hlt hst hthn hr hkp
              go_wp2_with fail
              refine (sput_any pb V f HV.out a b HLT.out.1 HLT.out.2 wr HPX.out).mono ?_
              rintro e w3 ⟨rfl, V', hV', hb', hk'⟩
              have HN' := Lib.hid (And.intro hV' (And.intro hb' (And.intro (hk'.same HRX.out (fun e => HPR.out.1 e)) (HKR.out.newer hk' (fun j e => by have := HPR.out.2; omega)))))
              clear hV' hb' hk'
              obtain ⟨j, hj⟩ : ∃ j, j = i + k := ⟨_, rfl⟩
              rw [← hj] at HST HTN wi
              have HJ := Lib.hid hj
              clear hj
              go_wp2
              go_roundg (E - j)
              case measure => have := HJ.out; have := HKP.out; omega
              case rel => exact ⟨j, HST.out.1, rfl, rfl, V', _, HN'.out.1, HN'.out.2.1, HN'.out.2.2.1, HN'.out.2.2.2, HST.out.2, HTN.out⟩
            · have hbad := thingsA_bad f i HINE.out hr
              have HX : Hid (setL (bl s) = .bad i 3) := Lib.hid (by rw [HSL2.out, HTH.out, hbad])
              clear hr hbad hsl
              go_wp2_with (refine wpList_store_row rfl 45 (.tmp 2) _ rfl rb (cellsPc zeroPc).toArray rfl rfl 45 (cellsPc zeroPc).toArray HRX.out (piece_info _) rfl (piece_all _) ?_)
              refine bodyPost_ret (results_ctt Try.results21 _ _ rb 45 _ (0, 0) _ rfl (setRow_heap _ _ _ _ _ _ HRX.out) Try.underlying45 rfl (piece_info zeroPc)) rfl ?_
              exact ⟨⟨zeroPc, i, 3, rfl, by rw [HX.out]; exact ⟨rfl, rfl⟩⟩, kept_row HKR.out (by have := HRB.out; omega)⟩
          · obtain rfl : i = E := by omega
            have hnil : ((bl s).take i).drop i = [] := List.drop_eq_nil_of_le (by rw [List.length_take]; omega)
            have hfin := HTH.out
            rw [hnil, thingsA_nil] at hfin
            have HFI := Lib.hid hfin
            have hdi : ¬ (i : Int) < (i : Int) := by omega
            have hdi' : decide (i < i) = false := decide_eq_false hd
            have wi : IntKind.i64.wrap ((i : Int) + 1) = ((i + 1 : Nat) : Int) := by rw [IntWalk.i64_in _ ⟨by omega, by have := HS.out; have := HSE.out; omega⟩]; omega
            obtain ⟨a, b, c, d, rfl⟩ := words4 HV.out
            clear hnil hfin
            have HX : Hid (setL (bl s) = .good ⟨2, 0, fun x => !f x⟩ (i + 1)) := Lib.hid (by rw [HSL2.out, HFI.out])
            have HN1 := Lib.hid HV.out.other
            obtain ⟨na, hna⟩ : ∃ y, y = 18446744073709551615 - a := ⟨_, rfl⟩
            obtain ⟨nb, hnb⟩ : ∃ y, y = 18446744073709551615 - b := ⟨_, rfl⟩
            obtain ⟨nc, hnc⟩ : ∃ y, y = 18446744073709551615 - c := ⟨_, rfl⟩
            obtain ⟨nd, hnd⟩ : ∃ y, y = 18446744073709551615 - d := ⟨_, rfl⟩
            have hneg : negW [a, b, c, d] = [na, nb, nc, nd] := by rw [hna, hnb, hnc, hnd]; rfl
            have HN2 : Hid (Wd [na, nb, nc, nd] (fun x => !f x)) := Lib.hid (by rw [← hneg]; exact HN1.out)
            have HO := Lib.hid (fun w => other_any [a, b, c, d] f HV.out w)
            rw [hneg, show (uvals [a, b, c, d]).toArray = #[.int .u64 (a : Int), .int .u64 (b : Int), .int .u64 (c : Int), .int .u64 (d : Int)] from rfl, show (uvals [na, nb, nc, nd]).toArray = #[.int .u64 (na : Int), .int .u64 (nb : Int), .int .u64 (nc : Int), .int .u64 (nd : Int)] from rfl] at HO
            clear hneg hna hnb hnc hnd HN1
            have hcs := cell_of_row wr pb
            have HC := Lib.hid (fun j => cell_of_row wr pb j _ _ _ HPX.out)
            have y2 : wr.cell? ⟨pb, 2, none⟩ = some (.int .u64 (a : Int)) := (HC.out 2).trans rfl
            have y3 : wr.cell? ⟨pb, 3, none⟩ = some (.int .u64 (b : Int)) := (HC.out 3).trans rfl
            have y4 : wr.cell? ⟨pb, 4, none⟩ = some (.int .u64 (c : Int)) := (HC.out 4).trans rfl
            have y5 : wr.cell? ⟨pb, 5, none⟩ = some (.int .u64 (d : Int)) := (HC.out 5).trans rfl
            clear hcs
            go_wp2_with fail
            refine (HO.out _).mono ?_
            rintro e w3 ⟨rfl, hk3⟩
            have hp3 := hk3.same HPX.out (fun x => x)
            have hr3 := hk3.same HRX.out (fun x => x)
            have f2 := frozen_of_row w3 pb 2 _ _ hp3
            have f3 := frozen_of_row w3 pb 3 _ _ hp3
            have f4 := frozen_of_row w3 pb 4 _ _ hp3
            have f5 := frozen_of_row w3 pb 5 _ _ hp3
            have z2 : w3.cell? ⟨pb, 2, none⟩ = some (.int .u64 (a : Int)) := hk3.cell y2 (fun x => x)
            have z3 : w3.cell? ⟨pb, 3, none⟩ = some (.int .u64 (b : Int)) := hk3.cell y3 (fun x => x)
            have z4 : w3.cell? ⟨pb, 4, none⟩ = some (.int .u64 (c : Int)) := hk3.cell y4 (fun x => x)
            have z5 : w3.cell? ⟨pb, 5, none⟩ = some (.int .u64 (d : Int)) := hk3.cell y5 (fun x => x)
            have HP3 := Lib.hid hp3
            have HR3 := Lib.hid hr3
            have HK3 := Lib.hid hk3
            go_upto_region 19 with fail
            obtain ⟨w4, hw4⟩ : ∃ w4, w4 = (((w3.setCell ⟨pb, 2, none⟩ (.int .u64 (na : Int))).setCell ⟨pb, 3, none⟩ (.int .u64 (nb : Int))).setCell ⟨pb, 4, none⟩ (.int .u64 (nc : Int))).setCell ⟨pb, 5, none⟩ (.int .u64 (nd : Int)) := ⟨_, rfl⟩
            rw [← hw4]
            have HPX2 : Hid (w4.heap[pb]? = some (.cells (cellsPc ⟨⟨2, 0, fun x => !f x⟩, na, nb, nc, nd⟩).toArray 45 (0, 0))) := Lib.hid (by rw [hw4]; exact pcs_set4 HP3.out na nb nc nd)
            have HRX4 : Hid (w4.heap[rb]? = some (.cells (cellsPc zeroPc).toArray 45 (0, 0))) := Lib.hid (by
              have hne := HPR.out.1
              rw [hw4, heap_setCell_other _ _ _ _ hne, heap_setCell_other _ _ _ _ hne, heap_setCell_other _ _ _ _ hne, heap_setCell_other _ _ _ _ hne]; exact HR3.out)
            have HKR4 : Hid (Kept (fun _ => False) w w4) := Lib.hid (by
              have hne := HPR.out.2
              rw [hw4]
              exact ((((HKR.out.trans HK3.out).setCell (fun e => by simp only at e; omega) _).setCell (fun e => by simp only at e; omega) _).setCell (fun e => by simp only at e; omega) _).setCell (fun e => by simp only at e; omega) _)
            have HOK := Lib.hid (show PcR.Ok ⟨⟨2, 0, fun x => !f x⟩, na, nb, nc, nd⟩ from ⟨HN2.out, by simp, by simp⟩)
            clear hw4 hp3 hr3 f2 f3 f4 f5 z2 z3 z4 z5 y2 y3 y4 y5 hk3
            go_wp2_with (first
              | (refine wpList_load_row rfl 45 (.tmp 9) rfl pb rfl 45 (cellsPc ⟨⟨2, 0, fun x => !f x⟩, na, nb, nc, nd⟩).toArray (0, 0) _ HPX2.out Try.underlying45 rfl (piece_info _) ?_)
              | (refine wpList_store_row rfl 45 (.tmp 2) _ rfl rb (cellsPc ⟨⟨2, 0, fun x => !f x⟩, na, nb, nc, nd⟩).toArray rfl rfl 45 (cellsPc zeroPc).toArray HRX4.out (piece_info _) rfl (piece_all _) ?_))
            refine bodyPost_ret (results_ctt Try.results21 _ _ rb 45 _ (0, 0) _ rfl (setRow_heap _ _ _ _ _ _ HRX4.out) Try.underlying45 rfl (piece_info _)) rfl ?_
            exact ⟨⟨⟨⟨2, 0, fun x => !f x⟩, na, nb, nc, nd⟩, i + 1, 0, rfl, by rw [HX.out]; exact ⟨HOK.out, rfl, rfl, rfl⟩⟩, kept_row HKR4.out (by have := HRB.out; omega)⟩

    · have q0 : ((c1 : Int) == 33) = false := by simp; omega
      have q0' : (c1 == 33) = false := by simp [h33]
      have hF : setFrom (bl s) = 1 := by unfold setFrom; rw [HG1.out, if_neg h33]
      rw [hF, HG1.out] at HSL
      simp only [if_neg h33] at HSL
      clear h33
      have hal2 : 1 ≤ E ∧ endL ((bl s).drop 1) = some (E - 1) := ⟨hE1, HN.out⟩
      obtain ⟨hE2, hA⟩ := hal2
      have HA := Lib.hid hA
      clear hF hA hE1
      by_cases heq : E = 1
      · have q1 : ((1 : Int) == (E : Int)) = true := by simp; omega
        have HX : Hid (setL (bl s) = .bad 0 3) := Lib.hid (by rw [HSL.out, if_pos heq.symm])
        have q2 : decide ((E : Int) = 1) = true := decide_eq_true (by omega)
        clear heq hE2 hEs
        go_wp2_with (refine wpList_store_row rfl 45 (.tmp 2) _ rfl rb (cellsPc zeroPc).toArray rfl rfl 45 (cellsPc zeroPc).toArray HB1.out (piece_info _) rfl (piece_all _) ?_)
        refine bodyPost_ret (results_ctt Try.results21 _ _ rb 45 _ (0, 0) _ rfl (setRow_heap _ _ _ _ _ _ HB1.out) Try.underlying45 rfl (piece_info zeroPc)) rfl ?_
        exact ⟨⟨zeroPc, 0, 3, rfl, by rw [HX.out]; exact ⟨rfl, rfl⟩⟩, kept_row HK1.out (by have := HRB.out; omega)⟩
      · have q1 : ((1 : Int) == (E : Int)) = false := by simp; omega
        have HSL2 := Lib.hid (HSL.out.trans (if_neg (fun e => heq e.symm)))
        have HE2 := Lib.hid hE2
        clear heq hE2
        go_upto_region 11 with fail
        obtain ⟨pb, hpb⟩ : ∃ pb, pb = w1.heap.size := ⟨_, rfl⟩
        rw [← hpb]
        obtain ⟨w2, hw2⟩ : ∃ w2, w2 = w1.alloc (.cells #[.int .i64 2, .int .u8 0, .int .u64 0, .int .u64 0, .int .u64 0, .int .u64 0] 45) := ⟨_, rfl⟩
        rw [← hw2]
        have hb2 : w2.heap[pb]? = some (.cells (pcs [0, 0, 0, 0]) 45 (0, 0)) := by rw [hw2, hpb]; exact heap_alloc_new w1 _
        have hk2 : Kept (fun _ => False) w1 w2 := by rw [hw2]; exact (Kept.refl _ _).alloc _
        have hr2 : w2.heap[rb]? = some (.cells (cellsPc zeroPc).toArray 45 (0, 0)) := hk2.same HB1.out (fun x => x)
        have I0 := Lib.hid (And.intro hb2 (And.intro hr2 (HK1.out.trans hk2)))
        have hpr : rb ≠ pb := by have := HZ1.out; omega
        have HPR := Lib.hid (And.intro hpr (show w.heap.size ≤ pb by have := HK1.out.size; omega))
        clear hb2 hk2 hr2 hw2 hpb hpr q1 hS1
        go_loopg [7] (E - 1) (fun G s7 wr => ∃ i : Nat, i ≤ E ∧ G = E - i ∧ s7 = .int .i64 i ∧ ∃ V f, Wd V f ∧ wr.heap[pb]? = some (.cells (pcs V) 45 (0, 0)) ∧ wr.heap[rb]? = some (.cells (cellsPc zeroPc).toArray 45 (0, 0)) ∧ Kept (fun _ => False) w wr ∧ endL ((bl s).drop i) = some (E - i) ∧ thingsA (((bl s).take E).drop 1) noF 1 = thingsA (((bl s).take E).drop i) f i)
        case atStart => exact ⟨1, HE2.out, rfl, rfl, _, _, Wd.zero, I0.out.1, I0.out.2.1, I0.out.2.2, HA.out, rfl⟩
        case round =>
          obtain ⟨i, hiE, rfl, rfl, V, f, hV, hpbx, hrbx, hk, hal, hth⟩ := hrel
          have HV := Lib.hid hV
          have HPX := Lib.hid hpbx
          have HRX := Lib.hid hrbx
          have HKR := Lib.hid hk
          have HAL := Lib.hid hal
          have HTH := Lib.hid hth
          clear hV hpbx hrbx hk hal hth I0
          by_cases hd : i < E
          · have hdi : (i : Int) < (E : Int) := by omega
            have hdi' : decide (i < E) = true := decide_eq_true hd
            have hsl := fun w => HP.out i (by omega) w
            have hins : bl (s.extract i E) = ((bl s).take E).drop i := bl_extract s i E
            have hine : ((bl s).take E).drop i ≠ [] := fun e => by
              have := congrArg List.length e
              rw [inside_len (by rw [bl_length]; omega)] at this
              simp at this; omega
            have hins2 := inside_len (l := bl s) (i := i) (E := E) (by rw [bl_length]; omega)
            have HT := Lib.hid (fun w => thing_any (s.extract i E) w (by rw [size_cut _ _ _ (by omega)]; omega) (by rw [size_cut _ _ _ (by omega)]; have := HS.out; omega) (by
              rw [hins, inside_byte hd, size_cut _ _ _ (by omega)]
              have := step_at HAL.out hd
              omega))
            rw [hins] at HT
            obtain ⟨t, ht⟩ : ∃ t, t = s.extract i E := ⟨_, rfl⟩
            rw [← ht] at HT hsl
            have HINE := Lib.hid hine
            have HBY := Lib.hid (show ∀ x ∈ ((bl s).take E).drop i, x < 256 from fun x hx => bl_lt (List.mem_of_mem_take (List.mem_of_mem_drop hx)))
            have hi0 : (0 : Int) ≤ (i : Int) := by omega
            have hiE2 : (i : Int) ≤ (E : Int) := by omega
            have hES2 : (E : Int) ≤ (s.size : Int) := by have := HSE.out; omega
            clear ht hins hine hins2
            go_wp2_with fail
            refine (HT.out _).mono ?_
            rintro e w' ⟨⟨a, b, k, ok, rfl, hr⟩, rfl⟩
            rcases hr with ⟨hr, rfl⟩ | ⟨hr, rfl⟩
            · have hlt := thing_lt HBY.out hr
              have hst := align_step HAL.out hd hr
              have hthn := thingsA_step f i HINE.out hr
              rw [List.drop_drop] at hthn
              have HLT := Lib.hid hlt
              have HST := Lib.hid hst
              have HTN := Lib.hid (HTH.out.trans hthn)
              have hkp := thingL_pos hr
              have wi : IntKind.i64.wrap ((i : Int) + (k : Int)) = ((i + k : Nat) : Int) := by rw [IntWalk.i64_in _ ⟨by omega, by have := HS.out; omega⟩]; omega
              have HKP := Lib.hid hkp
              clear hlt hst hthn hr hkp
              go_wp2_with fail
              refine (sput_any pb V f HV.out a b HLT.out.1 HLT.out.2 wr HPX.out).mono ?_
              rintro e w3 ⟨rfl, V', hV', hb', hk'⟩
              have HN' := Lib.hid (And.intro hV' (And.intro hb' (And.intro (hk'.same HRX.out (fun e => HPR.out.1 e)) (HKR.out.newer hk' (fun j e => by have := HPR.out.2; omega)))))
              clear hV' hb' hk'
              obtain ⟨j, hj⟩ : ∃ j, j = i + k := ⟨_, rfl⟩
              rw [← hj] at HST HTN wi
              have HJ := Lib.hid hj
              clear hj
              go_wp2
              go_roundg (E - j)
              case measure => have := HJ.out; have := HKP.out; omega
              case rel => exact ⟨j, HST.out.1, rfl, rfl, V', _, HN'.out.1, HN'.out.2.1, HN'.out.2.2.1, HN'.out.2.2.2, HST.out.2, HTN.out⟩
            · have hbad := thingsA_bad f i HINE.out hr
              have HX : Hid (setL (bl s) = .bad i 3) := Lib.hid (by rw [HSL2.out, HTH.out, hbad])
              clear hr hbad hsl
              go_wp2_with (refine wpList_store_row rfl 45 (.tmp 2) _ rfl rb (cellsPc zeroPc).toArray rfl rfl 45 (cellsPc zeroPc).toArray HRX.out (piece_info _) rfl (piece_all _) ?_)
              refine bodyPost_ret (results_ctt Try.results21 _ _ rb 45 _ (0, 0) _ rfl (setRow_heap _ _ _ _ _ _ HRX.out) Try.underlying45 rfl (piece_info zeroPc)) rfl ?_
              exact ⟨⟨zeroPc, i, 3, rfl, by rw [HX.out]; exact ⟨rfl, rfl⟩⟩, kept_row HKR.out (by have := HRB.out; omega)⟩
          · obtain rfl : i = E := by omega
            have hnil : ((bl s).take i).drop i = [] := List.drop_eq_nil_of_le (by rw [List.length_take]; omega)
            have hfin := HTH.out
            rw [hnil, thingsA_nil] at hfin
            have HFI := Lib.hid hfin
            have hdi : ¬ (i : Int) < (i : Int) := by omega
            have hdi' : decide (i < i) = false := decide_eq_false hd
            have wi : IntKind.i64.wrap ((i : Int) + 1) = ((i + 1 : Nat) : Int) := by rw [IntWalk.i64_in _ ⟨by omega, by have := HS.out; have := HSE.out; omega⟩]; omega
            obtain ⟨a, b, c, d, rfl⟩ := words4 HV.out
            clear hnil hfin
            have HX : Hid (setL (bl s) = .good ⟨2, 0, f⟩ (i + 1)) := Lib.hid (by rw [HSL2.out, HFI.out])
            have HOK := Lib.hid (show PcR.Ok ⟨⟨2, 0, f⟩, a, b, c, d⟩ from ⟨HV.out, by simp, by simp⟩)
            have HPX2 : Hid (wr.heap[pb]? = some (.cells (cellsPc ⟨⟨2, 0, f⟩, a, b, c, d⟩).toArray 45 (0, 0))) := Lib.hid HPX.out
            go_wp2_with (first
              | (refine wpList_load_row rfl 45 (.tmp 9) rfl pb rfl 45 (cellsPc ⟨⟨2, 0, f⟩, a, b, c, d⟩).toArray (0, 0) _ HPX2.out Try.underlying45 rfl (piece_info _) ?_)
              | (refine wpList_store_row rfl 45 (.tmp 2) _ rfl rb (cellsPc ⟨⟨2, 0, f⟩, a, b, c, d⟩).toArray rfl rfl 45 (cellsPc zeroPc).toArray HRX.out (piece_info _) rfl (piece_all _) ?_))
            refine bodyPost_ret (results_ctt Try.results21 _ _ rb 45 _ (0, 0) _ rfl (setRow_heap _ _ _ _ _ _ HRX.out) Try.underlying45 rfl (piece_info _)) rfl ?_
            exact ⟨⟨⟨⟨2, 0, f⟩, a, b, c, d⟩, i + 1, 0, rfl, by rw [HX.out]; exact ⟨HOK.out, rfl, rfl, rfl⟩⟩, kept_row HKR.out (by have := HRB.out; omega)⟩
  · rw [hn] at HSL
    have HX : Hid (setL (bl s) = .bad 0 2) := Lib.hid HSL.out
    clear hn
    go_wp2_with (refine wpList_store_row rfl 45 (.tmp 2) _ rfl rb (cellsPc zeroPc).toArray rfl rfl 45 (cellsPc zeroPc).toArray HB1.out (piece_info _) rfl (piece_all _) ?_)
    refine bodyPost_ret (results_ctt Try.results21 _ _ rb 45 _ (0, 0) _ rfl (setRow_heap _ _ _ _ _ _ HB1.out) Try.underlying45 rfl (piece_info zeroPc)) rfl ?_
    exact ⟨⟨zeroPc, 0, 2, rfl, by rw [HX.out]; exact ⟨rfl, rfl⟩⟩, kept_row HK1.out (by have := HRB.out; omega)⟩
end Go.Proofs.Ytjbjfdmdicfjfaa
