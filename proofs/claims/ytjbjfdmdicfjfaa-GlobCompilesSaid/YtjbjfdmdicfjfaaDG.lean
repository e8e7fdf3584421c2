/- The document's layer 32: end, thing, nothing, plain; sets of bytes in memory. -/
import Derived.Test.YtjbjfdmdicfjfaaD8
import Derived.Deep.RegionWith
namespace Go.Proofs.Ytjbjfdmdicfjfaa
open Go.RowKit
attribute [local go_sem ↓] Go.wp_at_zero Go.wp_at_succ

def boV (l : List Bool) : List Value := l.map Value.bool
@[simp] theorem boV_length (l : List Bool) : (boV l).length = l.length := by simp [boV]
theorem boV_get {l : List Bool} {j : Nat} (h : j < l.length) : (boV l)[j]? = some (.bool (l.getD j false)) := by
  simp [boV, List.getD_eq_getElem?_getD, List.getElem?_eq_getElem h]
theorem boV_one (l : List Bool) : ∀ u ∈ boV l, u.oneCell' = true := by
  intro u hu
  obtain ⟨n, _, rfl⟩ := List.mem_map.1 hu
  rfl
theorem boV_set (l : List Bool) (j : Nat) (b : Bool) : (boV l).set j (.bool b) = boV (l.set j b) := by simp [boV, List.map_set]
theorem Try.infoBool : (Try.prog.info? 4).map (fun i => (i.zero, i.size, i.bytes)) = some (some (.bool false), 1, 1) := by kernel_rfl
/-- A set's bools. -/
def boF (f : Nat → Bool) : List Bool := (List.range 256).map f
theorem boF_length (f : Nat → Bool) : (boF f).length = 256 := by simp [boF]
theorem boF_get (f : Nat → Bool) {x : Nat} (h : x < 256) : (boF f).getD x false = f x := by
  simp [boF, List.getD_eq_getElem?_getD, List.getElem?_map, List.getElem?_range h]
theorem boF_set (f : Nat → Bool) (c : Nat) : (boF f).set c true = boF (orF f c c) := by
  apply List.ext_getElem?
  intro i
  by_cases hi : i < 256
  · by_cases hc : i = c
    · subst hc
      rw [List.getElem?_set_self (by rw [boF_length]; exact hi)]
      simp [boF, List.getElem?_range hi, orF]
    · rw [List.getElem?_set_ne (fun e => hc e.symm)]
      have h2 : ¬ (c ≤ i ∧ i ≤ c) := by omega
      simp [boF, List.getElem?_range hi, orF, h2]
  · rw [List.getElem?_eq_none (by rw [List.length_set, boF_length]; omega), List.getElem?_eq_none (by rw [boF_length]; omega)]
theorem boF_const (b : Bool) : boF (fun _ => b) = List.replicate 256 b := by
  show (List.range 256).map (fun _ => b) = _
  rw [List.map_const', List.length_range]

theorem rend_any (s : ByteArray) (at_ : Nat) (w : World) (ha : at_ ≤ s.size) (hs : s.size ≤ 1000000) :
    Calls Try.prog 23 #[.string s, .int .i64 (at_ : Int)] w fun e w' => e = .returned (.int .i64 (match endL ((bl s).drop at_) with | some x => ((at_ + x : Nat) : Int) | none => -1)) ∧ w = w' := by
  have HS := Lib.hid hs
  have HR := Lib.hid (fun i (hi : i < s.size) w => run_chr (P := Try.prog) Try.underlying9 s i hi w)
  have HL := Lib.hid (bl_length s)
  obtain ⟨R, hR⟩ : ∃ R : Int, R = (match endL ((bl s).drop at_) with | some x => ((at_ + x : Nat) : Int) | none => -1) := ⟨_, rfl⟩
  rw [← hR]
  go_enter Try.func23, Try.ntmps23
  go_wp2
  go_loopg [1] (s.size + 1 - at_) (fun G s1 wr => ∃ i : Nat, i ≤ s.size + 1 ∧ at_ ≤ i ∧ G = s.size + 1 - i ∧ s1 = .int .i64 i ∧ w = wr ∧ R = (match endL ((bl s).drop i) with | some x => ((i + x : Nat) : Int) | none => -1))
  case atStart => exact ⟨at_, by omega, Nat.le_refl _, rfl, rfl, rfl, hR⟩
  case round =>
    obtain ⟨i, hin, hai, rfl, rfl, rfl, hE⟩ := hrel
    have HE := Lib.hid hE
    have HAI := Lib.hid hai
    clear hE hR
    by_cases hd : i < s.size
    · have hdi : (i : Int) < (s.size : Int) := by omega
      have hi0 : (0 : Int) ≤ (i : Int) := by omega
      have hix := HR.out i hd
      have HD := Lib.hid hd
      by_cases hc : chr s i = 93
      · have hX : Hid (R = (i : Int)) := Lib.hid (by rw [HE.out, endL_hit (by have := HL.out; omega) (by rw [bl_getD, hc])]; simp)
        rw [hc] at hix
        clear hc hd hin hai ha
        go_wp2
        go_ret
        exact ⟨by rw [hX.out]; rfl, rfl⟩
      · have hg := endL_go (l := bl s) (i := i) (by have := HL.out; omega) (by rw [bl_getD]; exact hc)
        rw [byteL_2, getD_drop, Nat.add_zero, bl_getD] at hg
        obtain ⟨c, hcc⟩ : ∃ c, c = chr s i := ⟨_, rfl⟩
        rw [← hcc] at hix hc hg
        have q : ((c : Int) == 93) = false := by simp; omega
        have q' : (c == 93) = false := by simp [hc]
        have w1 : IntKind.i64.wrap ((i : Int) + 1) = ((i + 1 : Nat) : Int) := by rw [IntWalk.i64_in _ ⟨by omega, by have := HS.out; omega⟩]; omega
        have w2 : IntKind.i64.wrap (((i + 1 : Nat) : Int) + 1) = ((i + 2 : Nat) : Int) := by rw [IntWalk.i64_in _ ⟨by omega, by have := HS.out; omega⟩]; omega
        obtain ⟨i1, hi1⟩ : ∃ k, k = i + 1 := ⟨_, rfl⟩
        obtain ⟨i2, hi2⟩ : ∃ k, k = i + 2 := ⟨_, rfl⟩
        rw [← hi1] at w1 w2
        rw [← hi2] at w2
        by_cases h92 : c = 92
        · rw [if_pos h92] at hg
          have HG := Lib.hid hg
          have HI := Lib.hid hi2
          have q2 : ((c : Int) == 92) = true := by simp; omega
          have q2' : (c == 92) = true := by simp [h92]
          clear hg hcc hd hin hai ha hi1 hi2 h92 hc
          go_wp2
          go_roundg (s.size + 1 - i2)
          case measure => have := HD.out; have := HI.out; omega
          case rel =>
            refine ⟨i2, by have := HD.out; have := HI.out; omega, by have := HI.out; have := HAI.out; omega, rfl, rfl, rfl, ?_⟩
            rw [HE.out, HG.out, HI.out]
            cases endL ((bl s).drop (i + 2)) with
            | none => rfl
            | some x =>
              show ((i + (x + 2) : Nat) : Int) = ((i + 2 + x : Nat) : Int)
              rw [show i + (x + 2) = i + 2 + x by omega]
        · rw [if_neg h92] at hg
          have HG := Lib.hid hg
          have HI := Lib.hid hi1
          have q2 : ((c : Int) == 92) = false := by simp; omega
          have q2' : (c == 92) = false := by simp [h92]
          clear hg hcc hd hin hai ha hi1 hi2 h92 hc
          go_wp2
          go_roundg (s.size + 1 - i1)
          case measure => have := HD.out; have := HI.out; omega
          case rel =>
            refine ⟨i1, by have := HD.out; have := HI.out; omega, by have := HI.out; have := HAI.out; omega, rfl, rfl, rfl, ?_⟩
            rw [HE.out, HG.out, HI.out]
            cases endL ((bl s).drop (i + 1)) with
            | none => rfl
            | some x =>
              show ((i + (x + 1) : Nat) : Int) = ((i + 1 + x : Nat) : Int)
              rw [show i + (x + 1) = i + 1 + x by omega]
    · have hdi : ¬ (i : Int) < (s.size : Int) := by omega
      have hX : Hid (R = -1) := Lib.hid (by rw [HE.out, List.drop_eq_nil_of_le (by have := HL.out; omega)]; rfl)
      clear hd hin hai ha
      go_wp2
      go_ret
      exact ⟨by rw [hX.out]; rfl, rfl⟩

/-- What the document's thing is: a byte, and where the next thing begins. -/
theorem thing_info (x y : Value) : (Try.prog.info? 63).map (·.size) = some (#[x, y] : Array Value).size := by
  have e : (Try.prog.info? 63).map (·.size) = some 2 := by kernel_rfl
  rw [e]; rfl
theorem all2 {x y : Value} (h1 : x.oneCell' = true) (h2 : y.oneCell' = true) : (#[x, y] : Array Value).all (·.oneCell') = true := by
  rw [Array.all_eq_true_iff_forall_mem]; intro v hv; simp at hv; rcases hv with rfl | rfl <;> assumption
set_option maxHeartbeats 1000000 in
theorem rthing_any (s : ByteArray) (at_ : Nat) (w : World) (ha : at_ + (byteL ((bl s).drop at_)).2 ≤ s.size) (hs : s.size ≤ 1000000) :
    Calls Try.prog 24 #[.string s, .int .i64 (at_ : Int)] w fun e w' => e = .returned (.agg #[.int .u8 ((byteL ((bl s).drop at_)).1 : Int), .int .i64 ((at_ + (byteL ((bl s).drop at_)).2 : Nat) : Int)]) ∧ Kept (fun _ => False) w w' := by
  have hp := byteL_pos ((bl s).drop at_)
  have h2 := byteL_2 ((bl s).drop at_)
  have hB : byteL ((bl s).drop at_) = if chr s at_ = 92 then (if ((bl s).drop at_).length = 1 then (0, 2) else (chr s (at_ + 1), 2)) else (chr s at_, 1) := by
    unfold byteL; rw [getD_drop, getD_drop, Nat.add_zero, bl_getD, bl_getD]
  rw [getD_drop, Nat.add_zero, bl_getD] at h2
  rw [List.length_drop, bl_length] at hB
  have ha0 : (0 : Int) ≤ (at_ : Int) := by omega
  have hix := run_chr (P := Try.prog) Try.underlying9 s at_ (by omega)
  obtain ⟨q, hq⟩ : ∃ q, q = w.heap.size := ⟨_, rfl⟩
  have hb1 : (w.alloc (.cells #[.int .u8 0, .int .i64 0] 63)).heap[q]? = some (.cells #[.int .u8 0, .int .i64 0] 63 (0, 0)) := by rw [hq]; exact heap_alloc_new w _
  obtain ⟨w1, hw1⟩ : ∃ w1, w1 = w.alloc (.cells #[.int .u8 0, .int .i64 0] 63) := ⟨_, rfl⟩
  rw [← hw1] at hb1
  have HB1 := Lib.hid hb1
  have HW1 := Lib.hid hw1.symm
  have HK1 : Hid (Kept (fun _ => False) w w1) := Lib.hid (by rw [hw1]; exact (Kept.refl _ _).alloc _)
  have HQ := Lib.hid hq
  clear hb1 hw1
  by_cases hc : chr s at_ = 92
  · rw [if_pos hc] at h2 hB
    rw [if_neg (by omega)] at hB
    rw [hB]
    have hix2 := run_chr (P := Try.prog) Try.underlying9 s (at_ + 1) (by omega)
    rw [hc] at hix
    have w1' : IntKind.i64.wrap ((at_ : Int) + 1) = ((at_ + 1 : Nat) : Int) := by rw [IntWalk.i64_in _ ⟨by omega, by omega⟩]; omega
    have w2' : IntKind.i64.wrap ((at_ : Int) + 2) = ((at_ + 2 : Nat) : Int) := by rw [IntWalk.i64_in _ ⟨by omega, by omega⟩]; omega
    have hi1 : (0 : Int) ≤ ((at_ + 1 : Nat) : Int) := by omega
    obtain ⟨i1, hi1'⟩ : ∃ k, k = at_ + 1 := ⟨_, rfl⟩
    obtain ⟨i2, hi2'⟩ : ∃ k, k = at_ + 2 := ⟨_, rfl⟩
    rw [← hi1'] at w1' hix2 hi1 ⊢
    rw [← hi2'] at w2' ⊢
    obtain ⟨c, hcc⟩ : ∃ c, c = chr s i1 := ⟨_, rfl⟩
    rw [← hcc] at hix2 ⊢
    clear hc hp h2 hB ha hs hi1' hi2' hcc
    go_enter Try.func24, Try.ntmps24
    go_upto_region 1 with fail
    rw [HW1.out, ← hq]
    clear hq
    go_wp2_with (refine wpList_store_row rfl 63 (.tmp 4) _ rfl q #[.int .u8 (c : Int), .int .i64 (i2 : Int)] rfl rfl 63 #[.int .u8 0, .int .i64 0] HB1.out (thing_info _ _) rfl (all2 rfl rfl) ?_)
    refine bodyPost_ret (v := .agg #[.int .u8 (c : Int), .int .i64 (i2 : Int)]) (results_cell_row Try.results24 _ _ q 63 _ (0, 0) _ rfl (setRow_heap _ _ _ _ _ _ HB1.out) Try.underlying63 rfl (thing_info _ _)) rfl ⟨rfl, kept_row HK1.out (by have := HQ.out; omega)⟩
  · rw [if_neg hc] at h2 hB
    rw [hB]
    obtain ⟨c, hcc⟩ : ∃ c, c = chr s at_ := ⟨_, rfl⟩
    rw [← hcc] at hix hc ⊢
    have q1 : ((c : Int) == 92) = false := by simp; omega
    have q1' : (c == 92) = false := by simp [hc]
    have w1' : IntKind.i64.wrap ((at_ : Int) + 1) = ((at_ + 1 : Nat) : Int) := by rw [IntWalk.i64_in _ ⟨by omega, by omega⟩]; omega
    obtain ⟨i1, hi1'⟩ : ∃ k, k = at_ + 1 := ⟨_, rfl⟩
    rw [← hi1'] at w1' ⊢
    clear hc hp h2 hB ha hs hi1' hcc
    go_enter Try.func24, Try.ntmps24
    go_upto_region 1 with fail
    rw [HW1.out, ← hq]
    clear hq
    go_wp2_with (refine wpList_store_row rfl 63 (.tmp 4) _ rfl q #[.int .u8 (c : Int), .int .i64 (i1 : Int)] rfl rfl 63 #[.int .u8 0, .int .i64 0] HB1.out (thing_info _ _) rfl (all2 rfl rfl) ?_)
    refine bodyPost_ret (v := .agg #[.int .u8 (c : Int), .int .i64 (i1 : Int)]) (results_cell_row Try.results24 _ _ q 63 _ (0, 0) _ rfl (setRow_heap _ _ _ _ _ _ HB1.out) Try.underlying63 rfl (thing_info _ _)) rfl ⟨rfl, kept_row HK1.out (by have := HQ.out; omega)⟩

set_option maxHeartbeats 1000000 in
theorem nothing_any (b : Bool) (w : World) :
    Calls Try.prog 18 #[.bool b] w fun e w' => ∃ v, e = .returned v ∧ Mine w w' 4 v (boV (boF (fun _ => b))) := by
  obtain ⟨i0, hi0, hz0, hz1, hz2⟩ := info_parts Try.infoBool
  have HB := Lib.hid (boF_const b)
  go_enter Try.func18, Try.ntmps18
  go_wp2
  go_loopg [4, 3] 256 (fun G s4 s3 wr => ∃ i : Nat, i ≤ 256 ∧ G = 256 - i ∧ s4 = .int .i64 i ∧ Mine w wr 4 s3 (boV (List.replicate i b)))
  case atStart => exact ⟨0, by omega, rfl, rfl, Mine.nil w _⟩
  case round =>
    obtain ⟨i, hin, rfl, rfl, hm⟩ := hrel
    have HM := Lib.hid hm
    clear hm
    by_cases hd : i < 256
    · have hdi : (i : Int) < 256 := by omega
      have hdi' : decide (i < 256) = true := decide_eq_true hd
      have wi : IntKind.i64.wrap ((i : Int) + 1) = ((i + 1 : Nat) : Int) := by rw [IntWalk.i64_in _ ⟨by omega, by omega⟩]; omega
      go_wp2_with (at_builtin; refine wpList_mine rfl (.tmp 9) (.tmp 11) 51 51 rfl 4 i0 _ 1 Try.underlying51 hi0 hz0 hz1 hz2 rfl (by omega) w _ _ rfl (HM.out.alloc _) _ [.bool b] rfl (src_one _ Try.underlying51 _ rfl) (by simp; omega) ?_)
      intro v1 w1 hm1
      have HM1 := Lib.hid (show Mine w w1 4 v1 (boV (List.replicate (i + 1) b)) by rw [List.replicate_succ']; simpa [boV] using hm1)
      clear hm1
      go_wp2
      go_roundg (256 - (i + 1))
      case measure => omega
      case rel => exact ⟨i + 1, by omega, rfl, rfl, HM1.out⟩
    · obtain rfl : i = 256 := by omega
      go_wp2
      go_ret
      exact ⟨_, rfl, by rw [HB.out]; exact HM.out⟩
end Go.Proofs.Ytjbjfdmdicfjfaa
