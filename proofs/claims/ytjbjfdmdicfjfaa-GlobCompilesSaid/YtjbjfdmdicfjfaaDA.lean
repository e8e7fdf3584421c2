/- package glob, layer 32: Compile. -/
import Derived.Test.YtjbjfdmdicfjfaaD9
namespace Go.Proofs.Ytjbjfdmdicfjfaa
open Go.RowKit
attribute [local go_sem ↓] Go.wp_at_zero Go.wp_at_succ

theorem Try.infoPc : (Try.prog.info? 45).map (fun i => (i.zero, i.size, i.bytes)) = some (some (.agg #[.int .i64 0, .int .u8 0, .int .u64 0, .int .u64 0, .int .u64 0, .int .u64 0]), 6, 48) := by kernel_rfl
/-- A pattern in memory. -/
structure GlobAt (w : World) (gb : Nat) (s : ByteArray) (L : List PcR) : Prop where
  box : ∃ a cp, w.heap[gb]? = some (.cells #[.string s, .slice a L.length cp] 49 (0, 0)) ∧ GAt cellsPc 6 w a L
  ok : ∀ P ∈ L, P.Ok
  len : L.length ≤ 64
theorem GlobAt.kept {w w' : World} {gb : Nat} {s : ByteArray} {L : List PcR} (h : GlobAt w gb s L) (k : Kept (fun _ => False) w w') : GlobAt w' gb s L := by
  obtain ⟨a, cp, hb, hg⟩ := h.box
  exact ⟨⟨a, cp, k.same hb (fun x => x), hg.kept k⟩, h.ok, h.len⟩
/-- What a text is as a pattern. -/
def compS (s : ByteArray) : Rs := if 64 < s.size then .bad 64 4 else compA (bl s) 0
/-- What Compile leaves. -/
def CompTo (w : World) (s : ByteArray) (r : Rs) (e : Ending) (w' : World) : Prop :=
  Kept (fun _ => False) w w' ∧ match r with
  | .bad a ee => e = .returned (.tuple #[.pointer none, .int .i64 (a : Int), .int .i64 (ee : Int)]) ∧ ee ≠ 0
  | .good ps => ∃ gb L, L.map PcR.p = ps ∧ GlobAt w' gb s L ∧ w.heap.size ≤ gb ∧ e = .returned (.tuple #[.pointer (some ⟨gb, 0, none⟩), .int .i64 0, .int .i64 0])

theorem thingsL_bad (k : Nat) : ∀ (l : List Nat) (f : Nat → Bool) (o x : Nat), thingsL k l f o = .bad x → x ≤ o + l.length := by
  induction k with
  | zero => intro l f o x h; cases h
  | succ k ih =>
    intro l f o x h
    unfold thingsL at h
    split at h
    · cases h
    · split at h
      · cases h; omega
      · rename_i a b n ht
        have := ih _ _ _ _ h
        rw [List.length_drop] at this
        have hn : n ≤ l.length ∨ l.length < n := by omega
        rcases hn with hn | hn
        · omega
        · rw [List.drop_eq_nil_of_le (by omega)] at h
          cases k with
          | zero => cases h
          | succ k => unfold thingsL at h; simp at h
theorem nextL_bad_le {l : List Nat} {a e : Nat} (h : nextL l = .bad a e) : a ≤ l.length := by
  unfold nextL at h
  split at h
  · cases h
  split at h
  · cases h
  split at h
  · unfold setL at h
    split at h
    · cases h; omega
    · rename_i E hE
      have hl := endL_lt hE
      rw [List.length_drop] at hl
      split at h
      · cases h; omega
      · split at h
        · rename_i o ho
          cases h
          have h2 := thingsL_bad _ _ _ _ _ ho
          rw [List.length_drop, List.length_take] at h2
          have : setFrom l ≤ 2 := by unfold setFrom; split <;> omega
          by_cases h3 : setFrom l ≤ 1 + E
          · omega
          · rw [List.drop_eq_nil_of_le (by rw [List.length_take]; omega)] at ho
            cases ho
        · cases h
  split at h
  · cases h; omega
  · cases h
set_option maxHeartbeats 4000000 in
theorem compile_any (s : ByteArray) (w : World) (hs : s.size ≤ 1000000) :
    Calls Try.prog 7 #[.string s] w fun e w' => CompTo w s (compS s) e w' := by
  obtain ⟨iP, hiP, hzP0, hzP1, hzP2⟩ := info_parts Try.infoPc
  by_cases h64 : 64 < s.size
  · have HX : Hid (compS s = .bad 64 4) := Lib.hid (if_pos h64)
    have q1 : (64 : Int) < (s.size : Int) := by omega
    have q1' : decide (64 < s.size) = true := decide_eq_true h64
    clear hs h64
    go_enter Try.func7, Try.ntmps7
    go_wp2
    go_ret3
    rw [HX.out]
    exact ⟨Kept.refl _ _, rfl, by omega⟩
  have HX : Hid (compS s = compA (bl s) 0) := Lib.hid (if_neg h64)
  have q1 : ¬ (64 : Int) < (s.size : Int) := by omega
  have q1' : decide (64 < s.size) = false := decide_eq_false h64
  have HS := Lib.hid (show s.size ≤ 64 by omega)
  have HF := Lib.hid (fun i (hi : i ≤ s.size) w => run_from (P := Try.prog) Try.underlying9 s i hi w)
  have HNX := Lib.hid (fun i (hi : i < s.size) w => next_any (s.extract i s.size) w (by rw [size_from]; omega) (by rw [size_from]; omega))
  clear hs h64
  go_enter Try.func7, Try.ntmps7
  go_wp2
  go_loopg [3, 5] s.size (fun G s3 s5 wr => ∃ i : Nat, i ≤ s.size ∧ G = s.size - i ∧ s3 = .int .i64 i ∧ ∃ L, MineG cellsPc 6 45 w wr s5 L ∧ (∀ P ∈ L, P.Ok) ∧ L.length ≤ i ∧ compA (bl s) 0 = (compA ((bl s).drop i) i).pre (L.map PcR.p))
  case atStart => exact ⟨0, Nat.zero_le _, rfl, rfl, [], MineG.nil (Kept.refl _ _), by simp, Nat.le_refl _, by rw [List.drop_zero]; simp [Rs.pre_nil]⟩
  case round =>
    obtain ⟨i, hin, rfl, rfl, L, hm, hok, hll, hcm⟩ := hrel
    have HM := Lib.hid hm
    have HOK := Lib.hid hok
    have HCM := Lib.hid hcm
    have HLL := Lib.hid hll
    obtain ⟨a0, c0, rfl⟩ := hm.slice
    clear hm hok hcm hll
    by_cases hd : i < s.size
    · have hdi : (i : Int) < (s.size : Int) := by omega
      have hi0 : (0 : Int) ≤ (i : Int) := by omega
      have hcut := HF.out i (by omega)
      have HN := Lib.hid (HNX.out i hd)
      rw [bl_from] at HN
      have hne : (bl s).drop i ≠ [] := fun e => by have := congrArg List.length e; rw [List.length_drop, bl_length] at this; simp at this; omega
      have HNE := Lib.hid hne
      have HD := Lib.hid hd
      obtain ⟨t, ht⟩ : ∃ t, t = s.extract i s.size := ⟨_, rfl⟩
      rw [← ht] at hcut HN
      clear ht hne hd hin
      go_wp2_with fail
      refine (HN.out wr).mono ?_
      rintro e w2 ⟨⟨⟨⟨k, c, f⟩, pa, pb, pc, pd⟩, x, y, rfl, hP⟩, hk2⟩
      rw [show (cellsPc ⟨⟨k, c, f⟩, pa, pb, pc, pd⟩).toArray = #[.int .i64 (k : Int), .int .u8 (c : Int), .int .u64 (pa : Int), .int .u64 (pb : Int), .int .u64 (pc : Int), .int .u64 (pd : Int)] from rfl]
      have HK2 := Lib.hid hk2
      cases hnl : nextL ((bl s).drop i) with
      | bad a ee =>
        rw [hnl] at hP
        obtain ⟨rfl, rfl⟩ := hP
        have hee := nextL_bad hnl
        have HR : Hid (compS s = .bad (i + x) y) := Lib.hid (by rw [HX.out, HCM.out, compA_bad i HNE.out hnl]; rfl)
        have hxb : x ≤ 1000000 := by have := nextL_bad_le hnl; rw [List.length_drop, bl_length] at this; have := HS.out; omega
        have wi : IntKind.i64.wrap ((i : Int) + (x : Int)) = ((i + x : Nat) : Int) := by rw [IntWalk.i64_in _ ⟨by omega, by have := HS.out; have := HD.out; omega⟩]; omega
        have q3 : ((y : Int) != 0) = true := bneT (by omega)
        have HEE := Lib.hid (show y ≠ 0 by omega)
        obtain ⟨j, hj⟩ : ∃ j, j = i + x := ⟨_, rfl⟩
        rw [← hj] at wi HR
        clear hj hnl hk2 hee hxb
        go_wp2
        go_ret3
        rw [HR.out]
        exact ⟨(HM.out.kept.trans HK2.out).alloc _, rfl, HEE.out⟩
      | good p n =>
        rw [hnl] at hP
        obtain ⟨hPok, rfl, rfl, rfl⟩ := hP
        have hst := compA_step i HNE.out hnl
        have hnp := nextL_pos HNE.out hnl
        rw [List.length_drop, bl_length] at hnp
        rw [List.drop_drop] at hst
        have HST := Lib.hid hst
        have HPOK := Lib.hid hPok
        have HNP := Lib.hid hnp
        have wi : IntKind.i64.wrap ((i : Int) + (x : Int)) = ((i + x : Nat) : Int) := by rw [IntWalk.i64_in _ ⟨by omega, by have := HS.out; have := HD.out; omega⟩]; omega
        clear hst hnp hPok hnl hk2
        have HWI := Lib.hid wi
        have hsl64 : i < 64 := by have := HS.out; have := HD.out; omega
        clear wi
        go_wp2_with (at_builtin; refine wpList_mineG (c := cellsPc) rfl (.tmp 30) (.tmp 32) rfl Try.underlying40 hiP hzP0 hzP1 hzP2 rfl w (.slice a0 L.length c0) L rfl ?own _ [⟨⟨k, c, f⟩, pa, pb, pc, pd⟩] 1 rfl rfl ?src (by have := HLL.out; omega) (by omega) ?_)
        case own => exact (HM.out.on ((HK2.out.alloc _).alloc _))
        case src =>
          rw [flatG_one']
          have h := src_oneG cfPc Try.underlying40 (w2.alloc (.cells (cellsPc ⟨⟨k, c, f⟩, pa, pb, pc, pd⟩).toArray 45)) ⟨⟨k, c, f⟩, pa, pb, pc, pd⟩
          rw [show (w2.alloc (.cells (cellsPc ⟨⟨k, c, f⟩, pa, pb, pc, pd⟩).toArray 45)).heap.size = w2.heap.size + 1 by simp] at h
          exact h
        intro v' w6 hm6 hk6 _
        have HM6 := Lib.hid hm6
        have wi := HWI.out
        obtain ⟨j, hj⟩ : ∃ j, j = i + x := ⟨_, rfl⟩
        rw [← hj] at wi HST
        have HJ := Lib.hid hj
        clear hm6 hk6 hj
        go_wp2
        go_roundg (s.size - j)
        case measure => have := HJ.out; have := HNP.out; have := HD.out; omega
        case rel =>
          refine ⟨j, by have := HJ.out; have := HNP.out; have := HD.out; omega, rfl, rfl, _, HM6.out, ?_, ?_, ?_⟩
          · intro Q hQ
            rcases List.mem_append.1 hQ with h | h
            · exact HOK.out Q h
            · rw [List.mem_singleton] at h; rw [h]; exact HPOK.out
          · rw [List.length_append, List.length_singleton]; have := HJ.out; have := HNP.out; have := HLL.out; omega
          · rw [HCM.out, HST.out, Rs.pre_pre, List.map_append]; rfl
    · obtain rfl : i = s.size := by omega
      have hdi : ¬ (s.size : Int) < (s.size : Int) := by omega
      have hdi' : decide (s.size < s.size) = false := decide_eq_false hd
      have HR : Hid (compS s = .good (L.map PcR.p)) := Lib.hid (by
        rw [HX.out, HCM.out, List.drop_eq_nil_of_le (by rw [bl_length]; omega), compA_nil]
        show Rs.good (L.map PcR.p ++ []) = _
        rw [List.append_nil])
      have hsz := HM.out.kept.size
      clear hd hin
      go_wp2
      go_ret3
      rw [HR.out]
      refine ⟨HM.out.kept.alloc _, wr.heap.size, L, rfl, ⟨⟨a0, c0, heap_alloc_new wr _, (HM.out.at_ cfPc).kept ((Kept.refl _ _).alloc _)⟩, HOK.out, by have := HLL.out; have := HS.out; omega⟩, hsz, rfl⟩
end Go.Proofs.Ytjbjfdmdicfjfaa
