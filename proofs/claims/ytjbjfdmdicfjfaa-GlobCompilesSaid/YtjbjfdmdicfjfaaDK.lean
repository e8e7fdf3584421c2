/- The document's layer 32: Compile. -/
import Derived.Test.YtjbjfdmdicfjfaaDJ
import Derived.Test.YtjbjfdmdicfjfaaDA
namespace Go.Proofs.Ytjbjfdmdicfjfaa
open Go.RowKit
attribute [local go_sem ↓] Go.wp_at_zero Go.wp_at_succ

theorem Try.infoRP : (Try.prog.info? 53).map (fun i => (i.zero, i.size, i.bytes)) = some (some (.agg #[.bool false, .bool false, .slice none 0 0, .int .u8 0]), 4, 40) := by kernel_rfl
/-- The document's pieces in memory. -/
structure RsAt (w : World) (a : Option Addr) (R : List RP) : Prop where
  at_ : GAt cellsRP 4 w a R
  ins : ∀ r ∈ R, InAt w r
  ok : ∀ r ∈ R, r.Ok
theorem RsAt.kept {w w' : World} {a : Option Addr} {R : List RP} (h : RsAt w a R) (k : Kept (fun _ => False) w w') : RsAt w' a R := ⟨h.at_.kept k, fun r hr => (h.ins r hr).kept k, h.ok⟩
/-- What the document's Compile leaves. -/
def RCompTo (w : World) (r : Rs) (e : Ending) (w' : World) : Prop :=
  Kept (fun _ => False) w w' ∧ match r with
  | .bad a ee => e = .returned (.agg #[.slice none 0 0, .int .i64 (a : Int), .int .i64 (ee : Int)]) ∧ ee ≠ 0
  | .good ps => ∃ a cp R, R.map RP.p = ps ∧ R.length ≤ 64 ∧ RsAt w' a R ∧ e = .returned (.agg #[.slice a R.length cp, .int .i64 0, .int .i64 0])
theorem grow32 {w1 w w6 : World} {v : Value} {R : List RP} {r : RP} (hm : MineG cellsRP 4 53 w1 w v R) (hin : ∀ x ∈ R, InAt w x) (hr : InAt w r) (hk6 : Kept (fun k => v.ownBlock = some k) w w6) : ∀ x ∈ R ++ [r], InAt w6 x := by
  have key : ∀ x, InAt w x → InAt w6 x := fun x hx => hx.keptS hk6 (fun g cs hb e => by
    obtain ⟨cur, hc⟩ := ownsRow_block hm.own e
    rw [hb] at hc
    injection hc with hc
    injection hc with _ hc _
    exact absurd hc (by decide))
  intro x hx
  rcases List.mem_append.1 hx with h | h
  · exact key x (hin x h)
  · rw [List.mem_singleton] at h; rw [h]; exact key r hr
theorem single32 {w1 w : World} {g n cp : Nat} (h : Mine w1 w 4 (.slice (some ⟨g, 0, none⟩) n cp) (boV (boF fun _ => true))) : InAt w ⟨⟨1, 0, noF⟩, some ⟨g, 0, none⟩, n, cp⟩ := inAt_mine h _ (fun _ _ => rfl)

set_option maxHeartbeats 8000000 in
set_option maxRecDepth 100000 in
theorem rcompile_any (s : ByteArray) (w : World) (hs : s.size ≤ 1000000) :
    Calls Try.prog 8 #[.string s] w fun e w' => RCompTo w (compS s) e w' := by
  obtain ⟨iP, hiP, hzP0, hzP1, hzP2⟩ := info_parts Try.infoRP
  obtain ⟨w1, hw1⟩ : ∃ w1, w1 = w.alloc (.cells #[.slice none 0 0, .int .i64 0, .int .i64 0] 29) := ⟨_, rfl⟩
  obtain ⟨rb, hrb⟩ : ∃ rb, rb = w.heap.size := ⟨_, rfl⟩
  have hb1 : w1.heap[rb]? = some (.cells #[.slice none 0 0, .int .i64 0, .int .i64 0] 29 (0, 0)) := by rw [hw1, hrb]; exact heap_alloc_new w _
  have HB1 := Lib.hid hb1
  have HK1 : Hid (Kept (fun _ => False) w w1) := Lib.hid (by rw [hw1]; exact (Kept.refl _ _).alloc _)
  have HRB := Lib.hid hrb
  have HW1 := Lib.hid hw1.symm
  clear hw1 hb1
  by_cases h64 : 64 < s.size
  · have HX : Hid (compS s = .bad 64 4) := Lib.hid (if_pos h64)
    have q1 : (64 : Int) < (s.size : Int) := by omega
    have q1' : decide (64 < s.size) = true := decide_eq_true h64
    clear hs h64
    go_enter Try.func8, Try.ntmps8
    go_upto_region 1 with fail
    rw [HW1.out, ← hrb]
    clear hrb
    go_wp2_with (refine wpList_store_row rfl 29 (.tmp 2) _ rfl rb #[.slice none 0 0, .int .i64 64, .int .i64 4] rfl rfl 29 #[.slice none 0 0, .int .i64 0, .int .i64 0] HB1.out (got32_info _ _ _) rfl (all3 rfl rfl rfl) ?_)
    refine bodyPost_ret (v := .agg #[.slice none 0 0, .int .i64 64, .int .i64 4]) (results_cell_row Try.results8 _ _ rb 29 _ (0, 0) _ rfl (setRow_heap _ _ _ _ _ _ HB1.out) Try.underlying29 rfl (got32_info _ _ _)) rfl ?_
    rw [HX.out]
    exact ⟨kept_row HK1.out (by have := HRB.out; omega), rfl, by omega⟩
  have HX : Hid (compS s = compA (bl s) 0) := Lib.hid (if_neg h64)
  have q1 : ¬ (64 : Int) < (s.size : Int) := by omega
  have q1' : decide (64 < s.size) = false := decide_eq_false h64
  have HS := Lib.hid (show s.size ≤ 64 by omega)
  have HR := Lib.hid (fun i (hi : i < s.size) w => run_chr (P := Try.prog) Try.underlying9 s i hi w)
  have HST := Lib.hid (fun i (hi : i < s.size) w => rset_any s i w hi (by omega))
  clear hs h64
  go_enter Try.func8, Try.ntmps8
  go_upto_region 1 with fail
  rw [HW1.out, ← hrb]
  clear hrb
  go_upto_region 5 with fail
  clear q1 q1'
  go_loopg [4, 3] s.size (fun G s4 s3 wr => ∃ i : Nat, i ≤ s.size ∧ G = s.size - i ∧ s4 = .int .i64 i ∧ ∃ R, MineG cellsRP 4 53 w1 wr s3 R ∧ (∀ r ∈ R, r.Ok) ∧ (∀ r ∈ R, InAt wr r) ∧ R.length ≤ i ∧ compA (bl s) 0 = (compA ((bl s).drop i) i).pre (R.map RP.p))
  case atStart => exact ⟨0, Nat.zero_le _, rfl, rfl, [], MineG.nil (Kept.refl _ _), by simp, by simp, Nat.le_refl _, by rw [List.drop_zero]; simp [Rs.pre_nil]⟩
  case round =>
    obtain ⟨i, hin, rfl, rfl, R, hm, hok, hins, hll, hcm⟩ := hrel
    have HM := Lib.hid hm
    have HOK := Lib.hid hok
    have HIN := Lib.hid hins
    have HCM := Lib.hid hcm
    have HLL := Lib.hid hll
    have HBX := Lib.hid (hm.kept.same HB1.out (fun x => x))
    have HKR := Lib.hid (HK1.out.trans hm.kept)
    obtain ⟨a0, c0, rfl⟩ := hm.slice
    clear hm hok hins hcm hll
    by_cases hd : i < s.size
    · have hdi : (i : Int) < (s.size : Int) := by omega
      have hi0 : (0 : Int) ≤ (i : Int) := by omega
      have hne : (bl s).drop i ≠ [] := fun e => by have := congrArg List.length e; rw [List.length_drop, bl_length] at this; simp at this; omega
      have HNE := Lib.hid hne
      have HD := Lib.hid hd
      have hix := HR.out i hd
      have hnl := nextL.eq_def ((bl s).drop i)
      rw [getD_drop, Nat.add_zero, bl_getD, List.length_drop, bl_length] at hnl
      have hbyte : byteL ((bl s).drop i) = if chr s i = 92 then (if s.size - i = 1 then (0, 2) else (chr s (i + 1), 2)) else (chr s i, 1) := by
        unfold byteL; rw [getD_drop, getD_drop, Nat.add_zero, bl_getD, bl_getD, List.length_drop, bl_length]
      have wi1 : IntKind.i64.wrap ((i : Int) + 1) = ((i + 1 : Nat) : Int) := by rw [IntWalk.i64_in _ ⟨by omega, by have := HS.out; omega⟩]; omega
      have wi2 : IntKind.i64.wrap ((i : Int) + 2) = ((i + 2 : Nat) : Int) := by rw [IntWalk.i64_in _ ⟨by omega, by have := HS.out; omega⟩]; omega
      obtain ⟨i1, hi1⟩ : ∃ k, k = i + 1 := ⟨_, rfl⟩
      obtain ⟨i2, hi2⟩ : ∃ k, k = i + 2 := ⟨_, rfl⟩
      have HI12 := Lib.hid (And.intro hi1 hi2)
      rw [← hi1] at wi1 hbyte
      rw [← hi2] at wi2
      have hlt := chr_lt s i
      obtain ⟨c, hc⟩ : ∃ c, c = chr s i := ⟨_, rfl⟩
      rw [← hc] at hix hnl hbyte hlt
      clear hne hc hin hi2
      by_cases h91 : c = 91
      · subst h91
        have hset : nextL ((bl s).drop i) = setL ((bl s).drop i) := by rw [hnl, if_neg (by omega), if_neg (by omega), if_pos rfl]
        have HSI := Lib.hid (HST.out i hd)
        clear hnl hbyte hlt wi1 wi2 hi1
        go_wp2_with fail
        refine (HSI.out wr).mono ?_
        rintro e w2 ⟨k2, hr2⟩
        have HK2 := Lib.hid k2
        have HBX2 := Lib.hid (k2.same HBX.out (fun x => x))
        clear k2
        cases hsl : setL ((bl s).drop i) with
        | bad o ee =>
          rw [hsl] at hr2 hset
          obtain ⟨rfl, hee⟩ := hr2
          have q3 : ((ee : Int) != 0) = true := bneT (by omega)
          have HRS : Hid (compS s = .bad (i + o) ee) := Lib.hid (by rw [HX.out, HCM.out, compA_bad i HNE.out hset]; rfl)
          have HEE := Lib.hid hee
          obtain ⟨j, hj⟩ : ∃ j, j = i + o := ⟨_, rfl⟩
          rw [← hj] at HRS ⊢
          clear hset hsl hj hee
          have HBX3 := Lib.hid (((Kept.refl (fun _ => False) w2).alloc (.cells #[.slice none 0 0, .int .i64 (j : Int), .int .i64 (ee : Int)] 29)).same HBX2.out (fun x => x))
          go_wp2_with (refine wpList_store_row rfl 29 (.tmp 2) _ rfl rb #[.slice none 0 0, .int .i64 (j : Int), .int .i64 (ee : Int)] rfl rfl 29 #[.slice none 0 0, .int .i64 0, .int .i64 0] HBX3.out (got32_info _ _ _) rfl (all3 rfl rfl rfl) ?_)
          refine bodyPost_ret (v := .agg #[.slice none 0 0, .int .i64 (j : Int), .int .i64 (ee : Int)]) (results_cell_row Try.results8 _ _ rb 29 _ (0, 0) _ rfl (setRow_heap _ _ _ _ _ _ HBX3.out) Try.underlying29 rfl (got32_info _ _ _)) rfl ?_
          rw [HRS.out]
          exact ⟨kept_row ((HKR.out.trans HK2.out).alloc _) (by have := HRB.out; omega), rfl, HEE.out⟩
        | good p n =>
          rw [hsl] at hr2 hset
          obtain ⟨gl, gs, cp, rfl, hg, hin2⟩ := hr2
          have hnx : nextL ((bl s).drop i) = .good p n := hset
          have hpos := nextL_pos HNE.out hnx
          rw [List.length_drop, bl_length] at hpos
          obtain ⟨j, hj⟩ : ∃ j, j = i + n := ⟨_, rfl⟩
          rw [← hj]
          have HJ := Lib.hid (And.intro hj hpos)
          have hp2 : p.k = 2 ∧ p.c = 0 := by
            unfold setL at hsl
            split at hsl
            · cases hsl
            · split at hsl
              · cases hsl
              · split at hsl
                · cases hsl
                · cases hsl; exact ⟨rfl, rfl⟩
          obtain ⟨pk, pc, pf⟩ := p
          obtain ⟨rfl, rfl⟩ := hp2
          obtain ⟨w3, hw3⟩ : ∃ w3, w3 = w2.alloc (.cells #[.slice (some ⟨gl, 0, none⟩) 1 1, .int .i64 (j : Int), .int .i64 0] 29) := ⟨_, rfl⟩
          have k3 : Kept (fun _ => False) w2 w3 := by rw [hw3]; exact (Kept.refl _ _).alloc _
          have hg3 := hg.kept k3
          have HIN3 := Lib.hid (hin2.kept k3)
          have HKW3 := Lib.hid (HK2.out.trans k3)
          obtain ⟨g', o', e', hr⟩ := hg3 (by simp)
          injection e' with e'
          injection e' with e1 e2 e3
          subst e1
          subst e2
          have hcell := hr 0 _ rfl
          have x0 : w3.cell? ⟨gl, 0, none⟩ = some (.bool false) := hcell 0 _ rfl
          have x1 : w3.cell? ⟨gl, 1, none⟩ = some (.bool false) := hcell 1 _ rfl
          have x2 : w3.cell? ⟨gl, 2, none⟩ = some (.slice (some ⟨gs, 0, none⟩) 256 cp) := hcell 2 _ rfl
          have x3 : w3.cell? ⟨gl, 3, none⟩ = some (.int .u8 0) := hcell 3 _ rfl
          obtain ⟨q6, hq6⟩ : ∃ q, q = w2.heap.size := ⟨_, rfl⟩
          have hb6 : w3.heap[q6]? = some (.cells #[.slice (some ⟨gl, 0, none⟩) 1 1, .int .i64 (j : Int), .int .i64 0] 29 (0, 0)) := by rw [hw3, hq6]; exact heap_alloc_new w2 _
          have y0 : w3.cell? ⟨q6, 0, none⟩ = some (.slice (some ⟨gl, 0, none⟩) 1 1) := by rw [cell_of_row _ _ _ _ _ _ hb6]; rfl
          have y1 : w3.cell? ⟨q6, 1, none⟩ = some (.int .i64 (j : Int)) := by rw [cell_of_row _ _ _ _ _ _ hb6]; rfl
          have HB6 := Lib.hid hb6
          have HW3 := Lib.hid hw3.symm
          have HQ6 := Lib.hid hq6
          have hnx' := Lib.hid hnx
          clear hw3 hq6 hset hsl hg hin2 k3 hg3 hr hcell e3 hj hpos hb6 hnx
          go_upto_region 11 with fail
          rw [HW3.out, ← HQ6.out]
          have hnx := hnx'.out
          have HNX := Lib.hid hnx
          have hstp := compA_step i HNE.out hnx
          rw [List.drop_drop] at hstp
          have HSTP := Lib.hid hstp
          clear hstp hnx
          go_wp2_with (at_builtin; refine wpList_mineG (c := cellsRP) rfl (.tmp 27) (.tmp 32) rfl Try.underlying27 hiP hzP0 hzP1 hzP2 rfl w1 (.slice a0 R.length c0) R rfl ?own _ [⟨⟨2, 0, pf⟩, some ⟨gs, 0, none⟩, 256, cp⟩] 1 rfl rfl ?src (by have := HLL.out; have := HS.out; omega) (by omega) ?_)
          case own => exact (HM.out.on (HKW3.out.alloc _))
          case src =>
            rw [flatG_one']
            exact src_oneG cfRP Try.underlying27 w3 ⟨⟨2, 0, pf⟩, some ⟨gs, 0, none⟩, 256, cp⟩
          intro v' w6 hm6 hk6 _
          have HM6 := Lib.hid hm6
          have HIN6 := Lib.hid (grow32 (HM.out.on (HKW3.out.alloc _)) (fun x hx => ((HIN.out x hx).kept HKW3.out).kept ((Kept.refl _ _).alloc _)) (HIN3.out.kept ((Kept.refl (fun _ => False) _).alloc _)) hk6)
          have y1 : w6.cell? ⟨q6, 1, none⟩ = some (.int .i64 (j : Int)) := by
            have hb := hk6.same (((Kept.refl (fun _ => False) w3).alloc _).same HB6.out (fun x => x)) (fun e => by
              obtain ⟨cur, hcu⟩ := ownsRow_block (HM.out.on (HKW3.out.alloc (.cells (cellsRP ⟨⟨2, 0, pf⟩, some ⟨gs, 0, none⟩, 256, cp⟩).toArray 53))).own e
              rw [((Kept.refl (fun _ => False) w3).alloc _).same HB6.out (fun x => x)] at hcu
              injection hcu with hcu
              injection hcu with _ hcu _
              exact absurd hcu (by decide))
            rw [cell_of_row _ _ _ _ _ _ hb]; rfl
          clear hm6 hk6
          go_wp2
          go_roundg (s.size - j)
          case measure => have := HI12.out; have := HD.out; have := HJ.out; omega
          case rel =>
            refine ⟨j, by have := HI12.out; have := HD.out; have := HJ.out; omega, rfl, rfl, _, HM6.out, ?_, HIN6.out, ?_, ?_⟩
            · intro x hx
              rcases List.mem_append.1 hx with h | h
              · exact HOK.out x h
              · rw [List.mem_singleton] at h; rw [h]; exact ⟨by simp, by simp⟩
            · rw [List.length_append, List.length_singleton]; have := HLL.out; have := HI12.out; have := HJ.out; omega
            · rw [HCM.out, HSTP.out, Rs.pre_pre, List.map_append]
              have e : i + n = j := by have := HI12.out; have := HJ.out; omega
              rw [e]; rfl
      have q91 : ((c : Int) == 91) = false := by simp; omega
      have q91' : (c == 91) = false := by simp [h91]
      by_cases h92 : c = 92
      · subst h92
        rw [if_pos rfl] at hbyte
        by_cases hl1 : s.size - i = 1
        · rw [if_pos hl1] at hbyte
          rw [hbyte] at hnl
          rw [if_neg (by omega), if_neg (by omega), if_neg (by omega), if_pos (by simp only; omega)] at hnl
          have q4 : ((i1 : Int) == (s.size : Int)) = true := by simp; omega
          have HRS : Hid (compS s = .bad i 2) := Lib.hid (by rw [HX.out, HCM.out, compA_bad i HNE.out hnl]; rfl)
          clear hnl hbyte hlt hl1 hi1 wi2
          go_wp2_with (refine wpList_store_row rfl 29 (.tmp 2) _ rfl rb #[.slice none 0 0, .int .i64 (i : Int), .int .i64 2] rfl rfl 29 #[.slice none 0 0, .int .i64 0, .int .i64 0] HBX.out (got32_info _ _ _) rfl (all3 rfl rfl rfl) ?_)
          refine bodyPost_ret (v := .agg #[.slice none 0 0, .int .i64 (i : Int), .int .i64 2]) (results_cell_row Try.results8 _ _ rb 29 _ (0, 0) _ rfl (setRow_heap _ _ _ _ _ _ HBX.out) Try.underlying29 rfl (got32_info _ _ _)) rfl ?_
          rw [HRS.out]
          exact ⟨kept_row HKR.out (by have := HRB.out; omega), rfl, by omega⟩
        · rw [if_neg hl1] at hbyte
          rw [hbyte] at hnl
          rw [if_neg (by omega), if_neg (by omega), if_neg (by omega), if_neg (by simp only; omega)] at hnl
          have hnx := hnl
          have q4 : ((i1 : Int) == (s.size : Int)) = false := by simp; omega
          have hix2 := HR.out i1 (by omega)
          have hi10 : (0 : Int) ≤ (i1 : Int) := by omega
          have HPL := Lib.hid (fun w => rplain_any (chr s i1) (chr_lt s i1) w)
          have HC2 := Lib.hid (chr_lt s i1)
          have HI2L := Lib.hid (show i2 ≤ s.size by have := HI12.out; omega)
          simp only at hnx
          obtain ⟨c2, hc2⟩ : ∃ c, c = chr s i1 := ⟨_, rfl⟩
          rw [← hc2] at hix2 HPL HC2 hnx
          clear hnl hbyte hlt hl1 hc2 hi1
          go_wp2_with fail
          refine (HPL.out wr).mono ?_
          rintro e w2 ⟨gs, cp, rfl, hin2, k2⟩
          have HIN2 := Lib.hid hin2
          have HK2 := Lib.hid k2
          clear hin2 k2
          have HNX := Lib.hid hnx
          have hstp := compA_step i HNE.out hnx
          rw [List.drop_drop] at hstp
          have HSTP := Lib.hid hstp
          clear hstp hnx
          go_wp2_with (at_builtin; refine wpList_mineG (c := cellsRP) rfl (.tmp 45) (.tmp 51) rfl Try.underlying27 hiP hzP0 hzP1 hzP2 rfl w1 (.slice a0 R.length c0) R rfl ?own _ [⟨⟨0, c2, noF⟩, some ⟨gs, 0, none⟩, 256, cp⟩] 1 rfl rfl ?src (by have := HLL.out; have := HS.out; omega) (by omega) ?_)
          case own => exact (HM.out.on (HK2.out.alloc _))
          case src =>
            rw [flatG_one']
            exact src_oneG cfRP Try.underlying27 w2 ⟨⟨0, c2, noF⟩, some ⟨gs, 0, none⟩, 256, cp⟩
          intro v' w6 hm6 hk6 _
          have HM6 := Lib.hid hm6
          have HIN6 := Lib.hid (grow32 (HM.out.on (HK2.out.alloc _)) (fun x hx => ((HIN.out x hx).kept HK2.out).kept ((Kept.refl _ _).alloc _)) (HIN2.out.kept ((Kept.refl (fun _ => False) _).alloc _)) hk6)
          clear hm6 hk6
          go_wp2
          go_roundg (s.size - i2)
          case measure => have := HI12.out; have := HD.out; have := HI2L.out; omega
          case rel =>
            refine ⟨i2, by have := HI12.out; have := HD.out; have := HI2L.out; omega, rfl, rfl, _, HM6.out, ?_, HIN6.out, ?_, ?_⟩
            · intro x hx
              rcases List.mem_append.1 hx with h | h
              · exact HOK.out x h
              · rw [List.mem_singleton] at h; rw [h]; exact ⟨by simp, HC2.out⟩
            · rw [List.length_append, List.length_singleton]; have := HLL.out; have := HI12.out; have := HI2L.out; omega
            · rw [HCM.out, HSTP.out, Rs.pre_pre, List.map_append]
              have e : i + 2 = i2 := by have := HI12.out; have := HI2L.out; omega
              rw [e]; rfl
      have q92 : ((c : Int) == 92) = false := by simp; omega
      have q92' : (c == 92) = false := by simp [h92]
      rw [if_neg h92] at hbyte
      rw [hbyte] at hnl
      by_cases h42 : c = 42
      · subst h42
        rw [if_pos rfl] at hnl
        have hnx := hnl
        have HRF := Lib.hid (Kept.refl (fun _ => False) wr)
        have HIN2 : Hid (InAt wr ⟨⟨3, 0, noF⟩, none, 0, 0⟩) := Lib.hid (fun h => absurd rfl h)
        clear hnl hbyte hlt wi2 hi1
        have HNX := Lib.hid hnx
        have hstp := compA_step i HNE.out hnx
        rw [List.drop_drop] at hstp
        have HSTP := Lib.hid hstp
        clear hstp hnx
        go_wp2_with (at_builtin; refine wpList_mineG (c := cellsRP) rfl (.tmp 57) (.tmp 59) rfl Try.underlying27 hiP hzP0 hzP1 hzP2 rfl w1 (.slice a0 R.length c0) R rfl ?own _ [⟨⟨3, 0, noF⟩, none, 0, 0⟩] 1 rfl rfl ?src (by have := HLL.out; have := HS.out; omega) (by omega) ?_)
        case own => exact (HM.out.on (HRF.out.alloc _))
        case src =>
          rw [flatG_one']
          exact src_oneG cfRP Try.underlying27 wr ⟨⟨3, 0, noF⟩, none, 0, 0⟩
        intro v' w6 hm6 hk6 _
        have HM6 := Lib.hid hm6
        have HIN6 := Lib.hid (grow32 (HM.out.on (HRF.out.alloc _)) (fun x hx => ((HIN.out x hx).kept HRF.out).kept ((Kept.refl _ _).alloc _)) (HIN2.out.kept ((Kept.refl (fun _ => False) _).alloc _)) hk6)
        clear hm6 hk6
        go_wp2
        go_roundg (s.size - i1)
        case measure => have := HI12.out; have := HD.out; omega
        case rel =>
          refine ⟨i1, by have := HI12.out; have := HD.out; omega, rfl, rfl, _, HM6.out, ?_, HIN6.out, ?_, ?_⟩
          · intro x hx
            rcases List.mem_append.1 hx with h | h
            · exact HOK.out x h
            · rw [List.mem_singleton] at h; rw [h]; exact ⟨by simp, by simp⟩
          · rw [List.length_append, List.length_singleton]; have := HLL.out; have := HI12.out; omega
          · rw [HCM.out, HSTP.out, Rs.pre_pre, List.map_append]
            have e : i + 1 = i1 := by have := HI12.out; omega
            rw [e]; rfl
      have q42 : ((c : Int) == 42) = false := by simp; omega
      have q42' : (c == 42) = false := by simp [h42]
      rw [if_neg h42] at hnl
      by_cases h63 : c = 63
      · subst h63
        rw [if_pos rfl] at hnl
        have hnx := hnl
        have HNO := Lib.hid (fun w => nothing_any true w)
        clear hnl hbyte hlt wi2 hi1
        go_wp2_with fail
        refine (HNO.out wr).mono ?_
        rintro e w2 ⟨v, rfl, hm2⟩
        obtain ⟨gs, cp, rfl⟩ := mine_row hm2 (by rw [boV_length, boF_length]; omega)
        rw [boV_length, boF_length] at hm2 ⊢
        have HIN2 := Lib.hid (single32 hm2)
        have HK2 := Lib.hid hm2.kept
        clear hm2
        have HNX := Lib.hid hnx
        have hstp := compA_step i HNE.out hnx
        rw [List.drop_drop] at hstp
        have HSTP := Lib.hid hstp
        clear hstp hnx
        go_wp2_with (at_builtin; refine wpList_mineG (c := cellsRP) rfl (.tmp 63) (.tmp 66) rfl Try.underlying27 hiP hzP0 hzP1 hzP2 rfl w1 (.slice a0 R.length c0) R rfl ?own _ [⟨⟨1, 0, noF⟩, some ⟨gs, 0, none⟩, 256, cp⟩] 1 rfl rfl ?src (by have := HLL.out; have := HS.out; omega) (by omega) ?_)
        case own => exact (HM.out.on (HK2.out.alloc _))
        case src =>
          rw [flatG_one']
          exact src_oneG cfRP Try.underlying27 w2 ⟨⟨1, 0, noF⟩, some ⟨gs, 0, none⟩, 256, cp⟩
        intro v' w6 hm6 hk6 _
        have HM6 := Lib.hid hm6
        have HIN6 := Lib.hid (grow32 (HM.out.on (HK2.out.alloc _)) (fun x hx => ((HIN.out x hx).kept HK2.out).kept ((Kept.refl _ _).alloc _)) (HIN2.out.kept ((Kept.refl (fun _ => False) _).alloc _)) hk6)
        clear hm6 hk6
        go_wp2
        go_roundg (s.size - i1)
        case measure => have := HI12.out; have := HD.out; omega
        case rel =>
          refine ⟨i1, by have := HI12.out; have := HD.out; omega, rfl, rfl, _, HM6.out, ?_, HIN6.out, ?_, ?_⟩
          · intro x hx
            rcases List.mem_append.1 hx with h | h
            · exact HOK.out x h
            · rw [List.mem_singleton] at h; rw [h]; exact ⟨by simp, by simp⟩
          · rw [List.length_append, List.length_singleton]; have := HLL.out; have := HI12.out; omega
          · rw [HCM.out, HSTP.out, Rs.pre_pre, List.map_append]
            have e : i + 1 = i1 := by have := HI12.out; omega
            rw [e]; rfl
      have q63 : ((c : Int) == 63) = false := by simp; omega
      have q63' : (c == 63) = false := by simp [h63]
      rw [if_neg h63, if_neg h91, if_neg (by simp only; omega)] at hnl
      have hnx := hnl
      simp only at hnx
      have HPL := Lib.hid (fun w => rplain_any c hlt w)
      have HC2 := Lib.hid hlt
      clear hnl hbyte hlt wi2 hi1 h91 h92 h42 h63
      go_wp2_with fail
      refine (HPL.out wr).mono ?_
      rintro e w2 ⟨gs, cp, rfl, hin2, k2⟩
      have HIN2 := Lib.hid hin2
      have HK2 := Lib.hid k2
      clear hin2 k2
      have HNX := Lib.hid hnx
      have hstp := compA_step i HNE.out hnx
      rw [List.drop_drop] at hstp
      have HSTP := Lib.hid hstp
      clear hstp hnx
      go_wp2_with (at_builtin; refine wpList_mineG (c := cellsRP) rfl (.tmp 68) (.tmp 71) rfl Try.underlying27 hiP hzP0 hzP1 hzP2 rfl w1 (.slice a0 R.length c0) R rfl ?own _ [⟨⟨0, c, noF⟩, some ⟨gs, 0, none⟩, 256, cp⟩] 1 rfl rfl ?src (by have := HLL.out; have := HS.out; omega) (by omega) ?_)
      case own => exact (HM.out.on (HK2.out.alloc _))
      case src =>
        rw [flatG_one']
        exact src_oneG cfRP Try.underlying27 w2 ⟨⟨0, c, noF⟩, some ⟨gs, 0, none⟩, 256, cp⟩
      intro v' w6 hm6 hk6 _
      have HM6 := Lib.hid hm6
      have HIN6 := Lib.hid (grow32 (HM.out.on (HK2.out.alloc _)) (fun x hx => ((HIN.out x hx).kept HK2.out).kept ((Kept.refl _ _).alloc _)) (HIN2.out.kept ((Kept.refl (fun _ => False) _).alloc _)) hk6)
      clear hm6 hk6
      go_wp2
      go_roundg (s.size - i1)
      case measure => have := HI12.out; have := HD.out; omega
      case rel =>
        refine ⟨i1, by have := HI12.out; have := HD.out; omega, rfl, rfl, _, HM6.out, ?_, HIN6.out, ?_, ?_⟩
        · intro x hx
          rcases List.mem_append.1 hx with h | h
          · exact HOK.out x h
          · rw [List.mem_singleton] at h; rw [h]; exact ⟨by simp, HC2.out⟩
        · rw [List.length_append, List.length_singleton]; have := HLL.out; have := HI12.out; omega
        · rw [HCM.out, HSTP.out, Rs.pre_pre, List.map_append]
          have e : i + 1 = i1 := by have := HI12.out; omega
          rw [e]; rfl
    · obtain rfl : i = s.size := by omega
      have hdi : ¬ (s.size : Int) < (s.size : Int) := by omega
      have hdi' : decide (s.size < s.size) = false := decide_eq_false hd
      have HRS : Hid (compS s = .good (R.map RP.p)) := Lib.hid (by
        rw [HX.out, HCM.out, List.drop_eq_nil_of_le (by rw [bl_length]; omega), compA_nil]
        show Rs.good (R.map RP.p ++ []) = _
        rw [List.append_nil])
      clear hd hin
      go_wp2_with (refine wpList_store_row rfl 29 (.tmp 2) _ rfl rb #[.slice a0 R.length c0, .int .i64 0, .int .i64 0] rfl rfl 29 #[.slice none 0 0, .int .i64 0, .int .i64 0] HBX.out (got32_info _ _ _) rfl (all3 rfl rfl rfl) ?_)
      refine bodyPost_ret (v := .agg #[.slice a0 R.length c0, .int .i64 0, .int .i64 0]) (results_cell_row Try.results8 _ _ rb 29 _ (0, 0) _ rfl (setRow_heap _ _ _ _ _ _ HBX.out) Try.underlying29 rfl (got32_info _ _ _)) rfl ?_
      rw [HRS.out]
      have hk : Kept (fun k => k = rb) wr (wr.setRow rb #[.slice a0 R.length c0, .int .i64 0, .int .i64 0]) := ⟨rfl, rfl, rfl, by simp, fun k _ hk => setRow_other _ _ _ _ (fun e => hk e)⟩
      refine ⟨kept_row HKR.out (by have := HRB.out; omega), a0, c0, R, rfl, by have := HLL.out; have := HS.out; omega, ⟨?_, fun r hr => (HIN.out r hr).keptS hk (fun g cs hb e => ?_), HOK.out⟩, rfl⟩
      · refine (HM.out.at_ cfRP).keptS hk (fun a ha h0 e => ?_)
        have hg := HM.out.own
        have hbl : (Value.slice a0 R.length c0).ownBlock = some a.block := by rw [ha]; rfl
        obtain ⟨cur, hcu⟩ := ownsRow_block hg hbl
        rw [e, HBX.out] at hcu
        injection hcu with hcu
        injection hcu with _ hcu _
        exact absurd hcu (by decide)
      · rw [e, HBX.out] at hb
        injection hb with hb
        injection hb with _ hb _
        exact absurd hb (by decide)
end Go.Proofs.Ytjbjfdmdicfjfaa

