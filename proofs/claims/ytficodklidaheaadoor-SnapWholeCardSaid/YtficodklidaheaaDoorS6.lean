/- Layer 18: bytes.Clone; Read, Size, Sync. -/
import Derived.Test.YtficodklidaheaaDoorS5
import Derived.Test.YtficodklidaheaaDoorRS
namespace Go.Proofs.YtficodklidaheaaDoor
open Go.RowKit
attribute [local go_sem ↓] Go.wp_at_zero Go.wp_at_succ

set_option maxRecDepth 100000 in
theorem bcloneN_any (a : Option Addr) (n c : Nat) (b : List Nat) (hn : b.length = n) (w : World) (hv : SlAt w (.slice a n c) (byV b)) (hl : n ≤ 1000000000) :
    Calls Tryd.prog 60 #[.slice a n c] w fun e w' => ∃ a' c', e = .returned (.slice a' n c') ∧ Mine w w' 5 (.slice a' n c') (byV b) := by
  have q29 := fun (w : World) (a : Option Addr) (n c n' c' : Nat) => Lib.run_eql_slice_nil (P := Tryd.prog) w 22 5 a n c n' c' Tryd.underlying22
  obtain ⟨iI, hiI, hzI0, hzI1, hzI2⟩ := info_parts Tryd.infoU8
  have hub : (byV b).length = n := by rw [← hn, byV_length]
  cases a with
  | none =>
    have hz : b = [] := by
      obtain ⟨ao, c', e, hz, _⟩ := hv.val
      injection e with e1 e2 e3
      have := hz e1.symm
      unfold byV at this
      simpa using this
    subst hz
    have hn0 : n = 0 := by simpa using hn.symm
    subst hn0
    clear hv
    go_enter Tryd.func60, Tryd.ntmps60
    go_wp2
    go_ret
    exact ⟨none, 0, rfl, Mine.nil _ _⟩
  | some a =>
    have hs : Src Tryd.prog 1 22 (.slice (some a) n c) (byV b).length (byV b) (w.alloc (.cells #[] 5)) :=
      (hv.kept ((Kept.refl (fun _ => False) w).alloc (.cells #[] 5)) (fun _ _ x => x)).src Tryd.underlying22 (byV_one b)
    have hown0 : Mine w (w.alloc (.cells #[] 5)) 5 (.slice (some ⟨w.heap.size, 0, none⟩) 0 0) [] :=
      ⟨⟨rfl, .inr ⟨w.heap.size, 0, #[], rfl, Nat.le_refl _, heap_alloc_new w _, Nat.le_refl _, by unfold maxLen; omega, rfl, rfl⟩⟩, (Kept.refl _ _).alloc _⟩
    have HO := Lib.hid hown0
    have HS := Lib.hid hs
    have HL := Lib.hid hl
    have HUB := Lib.hid hub
    obtain ⟨xs, hxs⟩ : ∃ xs, xs = byV b := ⟨_, rfl⟩
    rw [← hxs] at HS HUB ⊢
    clear hv hown0 hs hn hl hub hxs
    go_enter Tryd.func60, Tryd.ntmps60
    go_wp2_with (at_builtin; refine wpList_mine rfl (.tmp 5) (.tmp 6) _ _ rfl 5 iI (.int .u8 0) 1 Tryd.underlying22 hiI hzI0 hzI1 hzI2 rfl (by omega) w _ [] rfl HO.out _ xs rfl HS.out (by have := HL.out; have := HUB.out; simp; omega) ?_; intro v' w1 hm; have HM := Lib.hid hm; clear hm)
    go_ret
    have hm := HM.out
    rw [List.nil_append] at hm
    obtain ⟨a', c', rfl⟩ := hm.slice
    rw [HUB.out] at hm ⊢
    exact ⟨a', c', rfl, hm⟩
theorem DK.bytes_small {base : Nat} {w : World} {db mb : Nat} {L : List (ByteArray × Fi)} {D : DA} (h : DK base w db mb L D) {s : ByteArray} {f : Fi} (hf : getM L s = some f) : f.b.length ≤ 4194304 ∧ f.s ≤ f.b.length ∧ (∀ x ∈ f.b, x < 256) ∧ getM D.L s = some f.t := by
  have hg := h.get s
  rw [hf] at hg
  have hm := getM_mem hg.symm
  have h1 := usedL_del h.ok.asc.pair s
  rw [← hg] at h1
  simp only [Option.map_some, szM, Fi.t] at h1
  have := h.ok.used
  have := h.ok.capR
  exact ⟨by omega, h.ok.sure _ hm, h.ok.byte _ hm, hg.symm⟩
/-- What Read answers. -/
def readA (D : DA) (s : ByteArray) : List Nat × Int := if D.down = true then ([], 13) else match getM D.L s with | none => ([], 7) | some f => (f.b, 0)
def ReadTo (w : World) (r : List Nat × Int) (e : Ending) (w' : World) : Prop := ∃ a c, e = .returned (.tuple #[.slice a r.1.length c, .int .i64 r.2]) ∧ Mine w w' 5 (.slice a r.1.length c) (byV r.1)
set_option maxRecDepth 100000 in
set_option maxHeartbeats 2000000 in
theorem dRead_any (base db mb : Nat) (L : List (ByteArray × Fi)) (D : DA) (s : ByteArray) (hs : s.size ≤ maxLen) (w : World) (h : DK base w db mb L D) :
    Calls Tryd.prog 29 #[.pointer (some ⟨db, 0, none⟩), .string s] w (ReadTo w (readA D s)) := by
  have c0 := h.c.1
  have c3 := h.c.2.2.2.1
  unfold readA
  cases hd : D.down with
  | true =>
    rw [hd] at c3
    clear h hd
    go_enter Tryd.func29, Tryd.ntmps29
    go_wp2
    go_ret2
    exact ⟨none, 0, rfl, Mine.nil _ _⟩
  | false =>
    rw [hd] at c3
    have hl := (h.look hs).2
    cases hf : getM L s with
    | none =>
      have hg : getM D.L s = none := by rw [← h.get, hf]; rfl
      rw [lookF_none hf, hg] at hl
      rw [hg]
      replace hl : (Instr.lookup 109 (.map (some mb)) (.string s) true).run Tryd.prog w = .ok (.tuple #[.agg #[.slice none 0 0, .int .i64 0], .bool false]) w := hl
      have HK := Lib.hid ((Kept.refl (fun _ => False) w).alloc (.cells #[.slice none 0 0, .int .i64 0] 114))
      clear h hd hf hg
      go_enter Tryd.func29, Tryd.ntmps29
      go_wp2
      go_ret2
      exact ⟨none, 0, rfl, Mine.nil' _ HK.out⟩
    | some f =>
      obtain ⟨n1, n2, n3, hg⟩ := h.bytes_small hf
      rw [lookF_some hf, hg] at hl
      rw [hg]
      obtain ⟨a, c, b, z⟩ := f
      have ho := (h.data _ (getM_mem hf)).at_
      unfold Fi.v at ho
      simp only at ho hl n1
      unfold Fi.t
      simp only
      obtain ⟨n, hn⟩ : ∃ n, n = b.length := ⟨_, rfl⟩
      obtain ⟨wa, hwa⟩ : ∃ wa, wa = w.alloc (.cells #[.slice a n c, .int .i64 (z : Int)] 114) := ⟨_, rfl⟩
      have ka : Kept (fun _ => False) w wa := by rw [hwa]; exact (Kept.refl _ _).alloc _
      rw [← hn] at ho hl n1
      have HC := Lib.hid (bcloneN_any a n c b hn.symm wa (ho.kept ka (fun _ _ x => x)) (by omega))
      have HK := Lib.hid ka
      have HW := Lib.hid hwa
      have HN := Lib.hid hn
      clear h hd hf hg ho hwa ka n1 n2 n3 hn
      go_enter Tryd.func29, Tryd.ntmps29
      go_wp2_with fail
      rw [← HW.out]
      refine HC.out.mono ?_
      rintro e w1 ⟨a', c', rfl, hm⟩
      have HM := Lib.hid hm
      clear hm
      go_wp2
      go_ret2
      have hm := HM.out.down HK.out
      rw [HN.out] at hm ⊢
      exact ⟨a', c', rfl, hm⟩
/-- What Size answers. -/
def sizeA (D : DA) (s : ByteArray) : Int × Int × Int := if D.down = true then (0, 0, 13) else match getM D.L s with | none => (0, 0, 7) | some f => ((f.b.length : Int), (f.s : Int), 0)
set_option maxRecDepth 100000 in
set_option maxHeartbeats 2000000 in
theorem dSize_any (base db mb : Nat) (L : List (ByteArray × Fi)) (D : DA) (s : ByteArray) (hs : s.size ≤ maxLen) (w : World) (h : DK base w db mb L D) :
    Calls Tryd.prog 35 #[.pointer (some ⟨db, 0, none⟩), .string s] w fun e w' => e = .returned (.tuple #[.int .i64 (sizeA D s).1, .int .i64 (sizeA D s).2.1, .int .i64 (sizeA D s).2.2]) ∧ Kept (fun _ => False) w w' := by
  have c0 := h.c.1
  have c3 := h.c.2.2.2.1
  unfold sizeA
  cases hd : D.down with
  | true =>
    rw [hd] at c3
    clear h hd
    go_enter Tryd.func35, Tryd.ntmps35
    go_wp2
    go_ret3
    exact ⟨rfl, Kept.refl _ _⟩
  | false =>
    rw [hd] at c3
    have hl := (h.look hs).2
    cases hf : getM L s with
    | none =>
      have hg : getM D.L s = none := by rw [← h.get, hf]; rfl
      rw [lookF_none hf, hg] at hl
      rw [hg]
      replace hl : (Instr.lookup 109 (.map (some mb)) (.string s) true).run Tryd.prog w = .ok (.tuple #[.agg #[.slice none 0 0, .int .i64 0], .bool false]) w := hl
      have HK := Lib.hid ((Kept.refl (fun _ => False) w).alloc (.cells #[.slice none 0 0, .int .i64 0] 114))
      clear h hd hf hg
      go_enter Tryd.func35, Tryd.ntmps35
      go_wp2
      go_ret3
      exact ⟨rfl, HK.out⟩
    | some f =>
      obtain ⟨n1, n2, n3, hg⟩ := h.bytes_small hf
      rw [lookF_some hf, hg] at hl
      rw [hg]
      obtain ⟨a, c, b, z⟩ := f
      simp only at hl
      unfold Fi.t
      simp only
      obtain ⟨n, hn⟩ : ∃ n, n = b.length := ⟨_, rfl⟩
      rw [← hn] at hl ⊢
      have HK := Lib.hid (((Kept.refl (fun _ => False) w).alloc (.cells #[.slice a n c, .int .i64 (z : Int)] 114)).drew)
      clear h hd hf hg n1 n2 n3 hn
      go_enter Tryd.func35, Tryd.ntmps35
      go_upto_region 6 with fail
      go_region
      go_wp2
      go_ret3
      exact ⟨rfl, HK.out⟩
theorem beginOf_zero {D : DA} {s : ByteArray} (h : (beginOf D s).2 = 0) : ∃ p, getM (beginOf D s).1.L s = some p ∧ ∀ g, behindD D (withF s g) = g p (beginOf D s).1 := by
  unfold beginOf at h ⊢
  by_cases h0 : (beginD D).2 = 0
  · rw [if_pos h0] at h ⊢
    cases hx : getM D.L s with
    | none => rw [hx] at h; simp at h
    | some p =>
      simp only [Option.isSome_some, if_true]
      have hL := (beginD_L D).1
      refine ⟨p, by rw [← hx, hL], fun g => ?_⟩
      rw [behindD_eq h0]
      unfold withF
      rw [hL, hx]
  · rw [if_neg h0] at h
    exact absurd h h0
theorem beginOf_ne {D : DA} {s : ByteArray} (h : (beginOf D s).2 ≠ 0) (g : PF → DA → DA × Int) : behindD D (withF s g) = beginOf D s := by
  unfold beginOf at h ⊢
  by_cases h0 : (beginD D).2 = 0
  · rw [if_pos h0] at h ⊢
    rw [behindD_eq h0]
    have hL := (beginD_L D).1
    cases hx : getM D.L s with
    | some p => rw [hx] at h; simp at h
    | none =>
      unfold withF
      rw [hL, hx]
      rfl
  · rw [if_neg h0, behindD_ne h0]
set_option maxRecDepth 100000 in
set_option maxHeartbeats 2000000 in
theorem dSync_any (base db mb : Nat) (L : List (ByteArray × Fi)) (D : DA) (s : ByteArray) (hs : s.size ≤ maxLen) (w : World) (h : DK base w db mb L D) :
    Calls Tryd.prog 47 #[.pointer (some ⟨db, 0, none⟩), .string s] w (DTo base w db mb L (syncD D s)) := by
  have HC := Lib.hid (dchangeOf_any base db mb L D s hs w h)
  have HX := Lib.hid (And.intro (fun e : (beginOf D s).2 = 0 => beginOf_zero e) (fun e : (beginOf D s).2 ≠ 0 => beginOf_ne e))
  have hok := syncD_ok h.ok s
  unfold syncD at hok ⊢
  obtain ⟨g, hg⟩ : ∃ g : PF → DA → DA × Int, g = fun f D => ({ D with L := putS D.L s ⟨f.b, f.b.length⟩ }, 0) := ⟨_, rfl⟩
  rw [← hg] at hok ⊢
  have HG := Lib.hid (And.intro hg hok)
  obtain ⟨r, hr⟩ : ∃ r, r = beginOf D s := ⟨_, rfl⟩
  rw [← hr] at HC HX
  obtain ⟨D1, z⟩ := r
  have HS := Lib.hid hs
  clear hr hs h hg hok
  go_enter Tryd.func47, Tryd.ntmps47
  go_wp2_with fail
  refine HC.out.mono ?_
  rintro e w1 ⟨rfl, h1, hk1⟩
  have HD := Lib.hid (And.intro h1 hk1)
  clear h1 hk1
  by_cases hz : z = 0
  · have q0 : (z != 0) = false := bneF hz
    obtain ⟨p, hp, hgp⟩ := HX.out.1 hz
    have hy := hgp g
    have hok := HG.out.2
    rw [hy, HG.out.1] at hok
    have HY := Lib.hid (And.intro hy hok)
    have h1 := HD.out.1
    have hg1 := h1.get s
    rw [hp] at hg1
    cases hf : getM L s with
    | none => rw [hf] at hg1; cases hg1
    | some f =>
      have c0 := h1.c.1
      have hl := (h1.look HS.out).1
      rw [lookF_some hf] at hl
      obtain ⟨a, c, b, y⟩ := f
      simp only at hl
      obtain ⟨n, hn⟩ : ∃ n, n = b.length := ⟨_, rfl⟩
      obtain ⟨wa, hwa⟩ : ∃ wa, wa = w1.alloc (.cells #[.slice a n c, .int .i64 (y : Int)] 114) := ⟨_, rfl⟩
      have ka : Kept (fun _ => False) w1 wa.drew := by rw [hwa]; exact ((Kept.refl _ _).alloc _).drew
      have ha := h1.kept ka (fun _ _ x => x)
      obtain ⟨w3, hu, hm3, hk3⟩ := ha.map.update Tryd.underlying9 Tryd.underlying109 HS.out (⟨a, c, b, n⟩ : Fi).val (by have := ha.ok.count; have := ha.len; unfold mapM maxLen; rw [List.length_map]; omega)
      have HP := Lib.hid (ha.put (s := s) (f := ⟨a, c, b, n⟩) (D' := { D1 with L := putS D1.L s ⟨b, n⟩ }) (by
          rw [hn]
          have hpb : p = ⟨b, y⟩ := by
            rw [hf] at hg1
            simp only [Option.map_some, Fi.t, Option.some.injEq] at hg1
            exact hg1.symm
          have := HY.out.2
          rw [hpb] at this
          exact this) rfl (by
          have hb := ha.box.kept hk3 ha.ne
          have e : usedL (putS D1.L s ⟨b, n⟩) = usedL D1.L := by
            have := usedL_put ha.ok.asc.pair s ⟨b, n⟩
            have hg2 := ha.get s
            rw [hf] at hg2
            rw [← hg2] at this
            simpa [szM, Fi.t] using this
          unfold boxD at hb ⊢
          simp only [e]
          exact hb) hm3 ((ha.data _ (getM_mem hf)).kept hk3 (fun k e => (ha.noBox (getM_mem hf) e).2)) (hk3.mono (fun k _ e => .inr (.inl e))) (fun k e => .inl (by rw [lookF_some hf]; exact e)))
      replace hu : (Instr.mapUpdate 109 (.map (some mb)) (.string s) (.agg #[.slice a n c, .int .i64 (n : Int)])).run Tryd.prog wa.drew = .ok () w3 := by
        unfold Fi.val at hu
        simp only [← hn] at hu
        exact hu
      have HE : Hid (behindD D (withF s g) = ({ D1 with L := putS D1.L s ⟨b, n⟩ }, 0)) := Lib.hid (by
        rw [hf] at hg1
        simp only [Option.map_some, Fi.t, Option.some.injEq] at hg1
        rw [HY.out.1, HG.out.1, ← hg1, hn])
      have HKA := Lib.hid ka
      rw [← hn] at hl
      have cA := ha.c.1
      have HW := Lib.hid hwa
      have b0 : wa.cell? ⟨w1.heap.size, 0, none⟩ = some (.slice a n c) := by rw [hwa]; exact (BoxAt.new w1 _ _).cell rfl
      clear hp hgp hy hok h1 hg1 hf hm3 hk3 ha ka hn hz hwa
      go_upto_region 5 with fail
      rw [← HW.out]
      go_region
      go_wp2
      go_ret
      rw [HE.out]
      exact DTo.behind HD.out.2 ((DTo.behind (HKA.out.mono (fun _ _ x => x.elim)) ⟨_, rfl, HP.out⟩))
  · have q0 : (z != 0) = true := bneT hz
    have HY := Lib.hid (HX.out.2 hz)
    clear hz
    go_wp2
    go_ret
    rw [HY.out]
    exact BeganTo.to ⟨rfl, HD.out.1, HD.out.2⟩
end Go.Proofs.YtficodklidaheaaDoor
