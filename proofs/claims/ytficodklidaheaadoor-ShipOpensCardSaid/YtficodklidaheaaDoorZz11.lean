/- Texts put together: S6, S7, WQ. -/
import Derived.Test.YtficodklidaheaaDoorZz10
import Derived.Test.YtficodklidaheaaDoorZz9
import Derived.Deep.RegionWith
/- Layer 18: bytes.Clone; Read, Size, Sync. -/
namespace Go.Proofs.YtficodklidaheaaDoor
open Go.RowKit
attribute [local go_sem ↓] Go.wp_at_zero Go.wp_at_succ

set_option maxRecDepth 100000 in
theorem bcloneN_any (a : Option Addr) (n c : Nat) (b : List Nat) (hn : b.length = n) (w : World) (hv : SlAt w (.slice a n c) (byV b)) (hl : n ≤ 1000000000) :
    Calls Tryd.prog 60 #[.slice a n c] w fun e w' => ∃ a' c', e = .returned (.slice a' n c') ∧ Mine w w' 5 (.slice a' n c') (byV b) := by
  have q29 := fun (w : World) (a : Option Addr) (n c n' c' : Nat) => Lib.run_eql_slice_nil (P := Tryd.prog) w 22 5 a n c n' c' Tryd.underlying22
  obtain ⟨iI, hiI, hzI0, hzI1, hzI2⟩ := info_parts Tryd.infoU8
  have hub : (byV b).length = n := by rw [← hn, byV_length]
  cases a with
  | none =>
    have hz : b = [] := by
      obtain ⟨ao, c', e, hz, _⟩ := hv.val
      injection e with e1 e2 e3
      have := hz e1.symm
      unfold byV at this
      simpa using this
    subst hz
    have hn0 : n = 0 := by simpa using hn.symm
    subst hn0
    clear hv
    go_enter Tryd.func60, Tryd.ntmps60
    go_wp2
    go_ret
    exact ⟨none, 0, rfl, Mine.nil _ _⟩
  | some a =>
    have hs : Src Tryd.prog 1 22 (.slice (some a) n c) (byV b).length (byV b) (w.alloc (.cells #[] 5)) :=
      (hv.kept ((Kept.refl (fun _ => False) w).alloc (.cells #[] 5)) (fun _ _ x => x)).src Tryd.underlying22 (byV_one b)
    have hown0 : Mine w (w.alloc (.cells #[] 5)) 5 (.slice (some ⟨w.heap.size, 0, none⟩) 0 0) [] :=
      ⟨⟨rfl, .inr ⟨w.heap.size, 0, #[], rfl, Nat.le_refl _, heap_alloc_new w _, Nat.le_refl _, by unfold maxLen; omega, rfl, rfl⟩⟩, (Kept.refl _ _).alloc _⟩
    have HO := Lib.hid hown0
    have HS := Lib.hid hs
    have HL := Lib.hid hl
    have HUB := Lib.hid hub
    obtain ⟨xs, hxs⟩ : ∃ xs, xs = byV b := ⟨_, rfl⟩
    rw [← hxs] at HS HUB ⊢
    clear hv hown0 hs hn hl hub hxs
    go_enter Tryd.func60, Tryd.ntmps60
    go_wp2_with (at_builtin; refine wpList_mine rfl (.tmp 5) (.tmp 6) _ _ rfl 5 iI (.int .u8 0) 1 Tryd.underlying22 hiI hzI0 hzI1 hzI2 rfl (by omega) w _ [] rfl HO.out _ xs rfl HS.out (by have := HL.out; have := HUB.out; simp; omega) ?_; intro v' w1 hm; have HM := Lib.hid hm; clear hm)
    go_ret
    have hm := HM.out
    rw [List.nil_append] at hm
    obtain ⟨a', c', rfl⟩ := hm.slice
    rw [HUB.out] at hm ⊢
    exact ⟨a', c', rfl, hm⟩
theorem DK.bytes_small {base : Nat} {w : World} {db mb : Nat} {L : List (ByteArray × Fi)} {D : DA} (h : DK base w db mb L D) {s : ByteArray} {f : Fi} (hf : getM L s = some f) : f.b.length ≤ 4194304 ∧ f.s ≤ f.b.length ∧ (∀ x ∈ f.b, x < 256) ∧ getM D.L s = some f.t := by
  have hg := h.get s
  rw [hf] at hg
  have hm := getM_mem hg.symm
  have h1 := usedL_del h.ok.asc.pair s
  rw [← hg] at h1
  simp only [Option.map_some, szM, Fi.t] at h1
  have := h.ok.used
  have := h.ok.capR
  exact ⟨by omega, h.ok.sure _ hm, h.ok.byte _ hm, hg.symm⟩
/-- What Read answers. -/
def readA (D : DA) (s : ByteArray) : List Nat × Int := if D.down = true then ([], 13) else match getM D.L s with | none => ([], 7) | some f => (f.b, 0)
def ReadTo (w : World) (r : List Nat × Int) (e : Ending) (w' : World) : Prop := ∃ a c, e = .returned (.tuple #[.slice a r.1.length c, .int .i64 r.2]) ∧ Mine w w' 5 (.slice a r.1.length c) (byV r.1)
set_option maxRecDepth 100000 in
set_option maxHeartbeats 2000000 in
theorem dRead_any (base db mb : Nat) (L : List (ByteArray × Fi)) (D : DA) (s : ByteArray) (hs : s.size ≤ maxLen) (w : World) (h : DK base w db mb L D) :
    Calls Tryd.prog 29 #[.pointer (some ⟨db, 0, none⟩), .string s] w (ReadTo w (readA D s)) := by
  have c0 := h.c.1
  have c3 := h.c.2.2.2.1
  unfold readA
  cases hd : D.down with
  | true =>
    rw [hd] at c3
    clear h hd
    go_enter Tryd.func29, Tryd.ntmps29
    go_wp2
    go_ret2
    exact ⟨none, 0, rfl, Mine.nil _ _⟩
  | false =>
    rw [hd] at c3
    have hl := (h.look hs).2
    cases hf : getM L s with
    | none =>
      have hg : getM D.L s = none := by rw [← h.get, hf]; rfl
      rw [lookF_none hf, hg] at hl
      rw [hg]
      replace hl : (Instr.lookup 109 (.map (some mb)) (.string s) true).run Tryd.prog w = .ok (.tuple #[.agg #[.slice none 0 0, .int .i64 0], .bool false]) w := hl
      have HK := Lib.hid ((Kept.refl (fun _ => False) w).alloc (.cells #[.slice none 0 0, .int .i64 0] 114))
      clear h hd hf hg
      go_enter Tryd.func29, Tryd.ntmps29
      go_wp2
      go_ret2
      exact ⟨none, 0, rfl, Mine.nil' _ HK.out⟩
    | some f =>
      obtain ⟨n1, n2, n3, hg⟩ := h.bytes_small hf
      rw [lookF_some hf, hg] at hl
      rw [hg]
      obtain ⟨a, c, b, z⟩ := f
      have ho := (h.data _ (getM_mem hf)).at_
      unfold Fi.v at ho
      simp only at ho hl n1
      unfold Fi.t
      simp only
      obtain ⟨n, hn⟩ : ∃ n, n = b.length := ⟨_, rfl⟩
      obtain ⟨wa, hwa⟩ : ∃ wa, wa = w.alloc (.cells #[.slice a n c, .int .i64 (z : Int)] 114) := ⟨_, rfl⟩
      have ka : Kept (fun _ => False) w wa := by rw [hwa]; exact (Kept.refl _ _).alloc _
      rw [← hn] at ho hl n1
      have HC := Lib.hid (bcloneN_any a n c b hn.symm wa (ho.kept ka (fun _ _ x => x)) (by omega))
      have HK := Lib.hid ka
      have HW := Lib.hid hwa
      have HN := Lib.hid hn
      clear h hd hf hg ho hwa ka n1 n2 n3 hn
      go_enter Tryd.func29, Tryd.ntmps29
      go_wp2_with fail
      rw [← HW.out]
      refine HC.out.mono ?_
      rintro e w1 ⟨a', c', rfl, hm⟩
      have HM := Lib.hid hm
      clear hm
      go_wp2
      go_ret2
      have hm := HM.out.down HK.out
      rw [HN.out] at hm ⊢
      exact ⟨a', c', rfl, hm⟩
/-- What Size answers. -/
def sizeA (D : DA) (s : ByteArray) : Int × Int × Int := if D.down = true then (0, 0, 13) else match getM D.L s with | none => (0, 0, 7) | some f => ((f.b.length : Int), (f.s : Int), 0)
set_option maxRecDepth 100000 in
set_option maxHeartbeats 2000000 in
theorem dSize_any (base db mb : Nat) (L : List (ByteArray × Fi)) (D : DA) (s : ByteArray) (hs : s.size ≤ maxLen) (w : World) (h : DK base w db mb L D) :
    Calls Tryd.prog 35 #[.pointer (some ⟨db, 0, none⟩), .string s] w fun e w' => e = .returned (.tuple #[.int .i64 (sizeA D s).1, .int .i64 (sizeA D s).2.1, .int .i64 (sizeA D s).2.2]) ∧ Kept (fun _ => False) w w' := by
  have c0 := h.c.1
  have c3 := h.c.2.2.2.1
  unfold sizeA
  cases hd : D.down with
  | true =>
    rw [hd] at c3
    clear h hd
    go_enter Tryd.func35, Tryd.ntmps35
    go_wp2
    go_ret3
    exact ⟨rfl, Kept.refl _ _⟩
  | false =>
    rw [hd] at c3
    have hl := (h.look hs).2
    cases hf : getM L s with
    | none =>
      have hg : getM D.L s = none := by rw [← h.get, hf]; rfl
      rw [lookF_none hf, hg] at hl
      rw [hg]
      replace hl : (Instr.lookup 109 (.map (some mb)) (.string s) true).run Tryd.prog w = .ok (.tuple #[.agg #[.slice none 0 0, .int .i64 0], .bool false]) w := hl
      have HK := Lib.hid ((Kept.refl (fun _ => False) w).alloc (.cells #[.slice none 0 0, .int .i64 0] 114))
      clear h hd hf hg
      go_enter Tryd.func35, Tryd.ntmps35
      go_wp2
      go_ret3
      exact ⟨rfl, HK.out⟩
    | some f =>
      obtain ⟨n1, n2, n3, hg⟩ := h.bytes_small hf
      rw [lookF_some hf, hg] at hl
      rw [hg]
      obtain ⟨a, c, b, z⟩ := f
      simp only at hl
      unfold Fi.t
      simp only
      obtain ⟨n, hn⟩ : ∃ n, n = b.length := ⟨_, rfl⟩
      rw [← hn] at hl ⊢
      have HK := Lib.hid (((Kept.refl (fun _ => False) w).alloc (.cells #[.slice a n c, .int .i64 (z : Int)] 114)).drew)
      clear h hd hf hg n1 n2 n3 hn
      go_enter Tryd.func35, Tryd.ntmps35
      go_upto_region 6 with fail
      go_region
      go_wp2
      go_ret3
      exact ⟨rfl, HK.out⟩
theorem beginOf_zero {D : DA} {s : ByteArray} (h : (beginOf D s).2 = 0) : ∃ p, getM (beginOf D s).1.L s = some p ∧ ∀ g, behindD D (withF s g) = g p (beginOf D s).1 := by
  unfold beginOf at h ⊢
  by_cases h0 : (beginD D).2 = 0
  · rw [if_pos h0] at h ⊢
    cases hx : getM D.L s with
    | none => rw [hx] at h; simp at h
    | some p =>
      simp only [Option.isSome_some, if_true]
      have hL := (beginD_L D).1
      refine ⟨p, by rw [← hx, hL], fun g => ?_⟩
      rw [behindD_eq h0]
      unfold withF
      rw [hL, hx]
  · rw [if_neg h0] at h
    exact absurd h h0
theorem beginOf_ne {D : DA} {s : ByteArray} (h : (beginOf D s).2 ≠ 0) (g : PF → DA → DA × Int) : behindD D (withF s g) = beginOf D s := by
  unfold beginOf at h ⊢
  by_cases h0 : (beginD D).2 = 0
  · rw [if_pos h0] at h ⊢
    rw [behindD_eq h0]
    have hL := (beginD_L D).1
    cases hx : getM D.L s with
    | some p => rw [hx] at h; simp at h
    | none =>
      unfold withF
      rw [hL, hx]
      rfl
  · rw [if_neg h0, behindD_ne h0]
set_option maxRecDepth 100000 in
set_option maxHeartbeats 2000000 in
theorem dSync_any (base db mb : Nat) (L : List (ByteArray × Fi)) (D : DA) (s : ByteArray) (hs : s.size ≤ maxLen) (w : World) (h : DK base w db mb L D) :
    Calls Tryd.prog 47 #[.pointer (some ⟨db, 0, none⟩), .string s] w (DTo base w db mb L (syncD D s)) := by
  have HC := Lib.hid (dchangeOf_any base db mb L D s hs w h)
  have HX := Lib.hid (And.intro (fun e : (beginOf D s).2 = 0 => beginOf_zero e) (fun e : (beginOf D s).2 ≠ 0 => beginOf_ne e))
  have hok := syncD_ok h.ok s
  unfold syncD at hok ⊢
  obtain ⟨g, hg⟩ : ∃ g : PF → DA → DA × Int, g = fun f D => ({ D with L := putS D.L s ⟨f.b, f.b.length⟩ }, 0) := ⟨_, rfl⟩
  rw [← hg] at hok ⊢
  have HG := Lib.hid (And.intro hg hok)
  obtain ⟨r, hr⟩ : ∃ r, r = beginOf D s := ⟨_, rfl⟩
  rw [← hr] at HC HX
  obtain ⟨D1, z⟩ := r
  have HS := Lib.hid hs
  clear hr hs h hg hok
  go_enter Tryd.func47, Tryd.ntmps47
  go_wp2_with fail
  refine HC.out.mono ?_
  rintro e w1 ⟨rfl, h1, hk1⟩
  have HD := Lib.hid (And.intro h1 hk1)
  clear h1 hk1
  by_cases hz : z = 0
  · have q0 : (z != 0) = false := bneF hz
    obtain ⟨p, hp, hgp⟩ := HX.out.1 hz
    have hy := hgp g
    have hok := HG.out.2
    rw [hy, HG.out.1] at hok
    have HY := Lib.hid (And.intro hy hok)
    have h1 := HD.out.1
    have hg1 := h1.get s
    rw [hp] at hg1
    cases hf : getM L s with
    | none => rw [hf] at hg1; cases hg1
    | some f =>
      have c0 := h1.c.1
      have hl := (h1.look HS.out).1
      rw [lookF_some hf] at hl
      obtain ⟨a, c, b, y⟩ := f
      simp only at hl
      obtain ⟨n, hn⟩ : ∃ n, n = b.length := ⟨_, rfl⟩
      obtain ⟨wa, hwa⟩ : ∃ wa, wa = w1.alloc (.cells #[.slice a n c, .int .i64 (y : Int)] 114) := ⟨_, rfl⟩
      have ka : Kept (fun _ => False) w1 wa.drew := by rw [hwa]; exact ((Kept.refl _ _).alloc _).drew
      have ha := h1.kept ka (fun _ _ x => x)
      obtain ⟨w3, hu, hm3, hk3⟩ := ha.map.update Tryd.underlying9 Tryd.underlying109 HS.out (⟨a, c, b, n⟩ : Fi).val (by have := ha.ok.count; have := ha.len; unfold mapM maxLen; rw [List.length_map]; omega)
      have HP := Lib.hid (ha.put (s := s) (f := ⟨a, c, b, n⟩) (D' := { D1 with L := putS D1.L s ⟨b, n⟩ }) (by
          rw [hn]
          have hpb : p = ⟨b, y⟩ := by
            rw [hf] at hg1
            simp only [Option.map_some, Fi.t, Option.some.injEq] at hg1
            exact hg1.symm
          have := HY.out.2
          rw [hpb] at this
          exact this) rfl (by
          have hb := ha.box.kept hk3 ha.ne
          have e : usedL (putS D1.L s ⟨b, n⟩) = usedL D1.L := by
            have := usedL_put ha.ok.asc.pair s ⟨b, n⟩
            have hg2 := ha.get s
            rw [hf] at hg2
            rw [← hg2] at this
            simpa [szM, Fi.t] using this
          unfold boxD at hb ⊢
          simp only [e]
          exact hb) hm3 ((ha.data _ (getM_mem hf)).kept hk3 (fun k e => (ha.noBox (getM_mem hf) e).2)) (hk3.mono (fun k _ e => .inr (.inl e))) (fun k e => .inl (by rw [lookF_some hf]; exact e)))
      replace hu : (Instr.mapUpdate 109 (.map (some mb)) (.string s) (.agg #[.slice a n c, .int .i64 (n : Int)])).run Tryd.prog wa.drew = .ok () w3 := by
        unfold Fi.val at hu
        simp only [← hn] at hu
        exact hu
      have HE : Hid (behindD D (withF s g) = ({ D1 with L := putS D1.L s ⟨b, n⟩ }, 0)) := Lib.hid (by
        rw [hf] at hg1
        simp only [Option.map_some, Fi.t, Option.some.injEq] at hg1
        rw [HY.out.1, HG.out.1, ← hg1, hn])
      have HKA := Lib.hid ka
      rw [← hn] at hl
      have cA := ha.c.1
      have HW := Lib.hid hwa
      have b0 : wa.cell? ⟨w1.heap.size, 0, none⟩ = some (.slice a n c) := by rw [hwa]; exact (BoxAt.new w1 _ _).cell rfl
      clear hp hgp hy hok h1 hg1 hf hm3 hk3 ha ka hn hz hwa
      go_upto_region 5 with fail
      rw [← HW.out]
      go_region
      go_wp2
      go_ret
      rw [HE.out]
      exact DTo.behind HD.out.2 ((DTo.behind (HKA.out.mono (fun _ _ x => x.elim)) ⟨_, rfl, HP.out⟩))
  · have q0 : (z != 0) = true := bneT hz
    have HY := Lib.hid (HX.out.2 hz)
    clear hz
    go_wp2
    go_ret
    rw [HY.out]
    exact BeganTo.to ⟨rfl, HD.out.1, HD.out.2⟩
end Go.Proofs.YtficodklidaheaaDoor
/- Layer 18: remove, Remove; a file's first bytes; append onto a file's bytes. -/
namespace Go.Proofs.YtficodklidaheaaDoor
open Go.RowKit
attribute [local go_sem ↓] Go.wp_at_zero Go.wp_at_succ

theorem run_field0 (a : Option Addr) (n c : Nat) (z : Int) (w : World) : (Instr.field 114 (.agg #[.slice a n c, .int .i64 z]) 0).run Tryd.prog w = .ok (.slice a n c) w := by kernel_rfl
theorem usedBox {w w' : World} {db mb : Nat} {D : DA} (h : BoxAt w db 111 (boxD mb D)) {M : List (ByteArray × PF)} {z : Int} (hz : z = (usedL M : Int)) (hw : w' = w.setCell ⟨db, 2, none⟩ (.int .i64 z)) : BoxAt w' db 111 (boxD mb { D with L := M }) := by
  have := h.set 2 (.int .i64 z)
  rw [hw]
  subst hz
  exact this
set_option maxRecDepth 100000 in
set_option maxHeartbeats 2000000 in
theorem dremove_any (base db mb : Nat) (L : List (ByteArray × Fi)) (D : DA) (s : ByteArray) (hs : s.size ≤ maxLen) (w : World) (h : DK base w db mb L D) :
    Calls Tryd.prog 98 #[.pointer (some ⟨db, 0, none⟩), .string s] w fun e w' => e = .returned (.tuple #[]) ∧ DK base w' db mb (delM L s) { D with L := delM D.L s } ∧ Kept (foot db mb L) w w' ∧ Foot w db mb L (delM L s) := by
  have c0 := h.c.1
  have c2 := h.c.2.2.1
  have f2 := h.box.fz 2
  have hl := ((h.kept ((Kept.refl (fun _ => False) w).drew) (fun _ _ x => x)).look hs).1
  have hu := usedL_del h.ok.asc.pair s
  have hcap := h.ok.capR
  have hus := h.ok.used
  obtain ⟨f, hf⟩ : ∃ f, f = lookF L s := ⟨_, rfl⟩
  have hn : szM (getM D.L s) = f.b.length := by
    rw [hf, ← h.get]
    unfold lookF
    cases getM L s <;> rfl
  rw [← hf] at hl
  rw [hn] at hu
  obtain ⟨a, c, b, z⟩ := f
  simp only at hl hu
  obtain ⟨n, hnn⟩ : ∃ n, n = b.length := ⟨_, rfl⟩
  rw [← hnn] at hl hu
  obtain ⟨u, huu⟩ : ∃ u, u = usedL D.L := ⟨_, rfl⟩
  rw [← huu] at c2 hu hus
  have hr1 : n ≤ u := by omega
  have hr2 : u ≤ 4194304 := by omega
  have kS : Kept (fun k => k = db) w (w.setCell ⟨db, 2, none⟩ (.int .i64 ((u : Int) - (n : Int)))).drew := (kept_set w db 2 _).drew
  have hm1 := h.map.kept kS (fun e => h.ne e.symm)
  obtain ⟨w3, hd, hm3, hk3⟩ := hm1.delete Tryd.underlying9 Tryd.underlying109 hs 0
  have HR := Lib.hid (show DK base w3 db mb (delM L s) { D with L := delM D.L s } ∧ Kept (foot db mb L) w w3 ∧ Foot w db mb L (delM L s) from
    h.del (removeF_ok h.ok s) rfl (by
      have := usedBox (M := delM D.L s) (z := (u : Int) - (n : Int)) h.box (by omega) rfl
      exact (this.kept ((Kept.refl (fun _ => False) _).drew) (fun x => x)).kept hk3 h.ne) hm3 ((kS.mono (fun _ _ e => .inl e)).trans (hk3.mono (fun _ _ e => .inr e))))
  have c0' : ((w.setCell ⟨db, 2, none⟩ (.int .i64 ((u : Int) - (n : Int)))).drew).cell? ⟨db, 0, none⟩ = some (.map (some mb)) := by
    have hb := (h.box.set 2 (.int .i64 ((u : Int) - (n : Int)))).kept ((Kept.refl (fun _ => False) _).drew) (fun x => x)
    exact hb.cell rfl
  have hfd := run_field0
  clear h hu hcap hus hf hn hnn huu hm1 hm3 hk3 kS
  go_enter Tryd.func98, Tryd.ntmps98
  go_upto_region 0 with fail
  go_region
  go_wp2
  go_end0
  exact ⟨rfl, HR.out⟩
set_option maxRecDepth 100000 in
set_option maxHeartbeats 2000000 in
theorem dRemove_any (base db mb : Nat) (L : List (ByteArray × Fi)) (D : DA) (s : ByteArray) (hs : s.size ≤ maxLen) (w : World) (h : DK base w db mb L D) :
    Calls Tryd.prog 97 #[.pointer (some ⟨db, 0, none⟩), .string s] w (DTo base w db mb L (removeD D s)) := by
  have HC := Lib.hid (dchangeOf_any base db mb L D s hs w h)
  have HX := Lib.hid (And.intro (fun e : (beginOf D s).2 = 0 => beginOf_zero e) (fun e : (beginOf D s).2 ≠ 0 => beginOf_ne e))
  unfold removeD
  obtain ⟨g, hg⟩ : ∃ g : PF → DA → DA × Int, g = fun _ D => ({ D with L := delM D.L s }, 0) := ⟨_, rfl⟩
  rw [← hg]
  have HG := Lib.hid hg
  obtain ⟨r, hr⟩ : ∃ r, r = beginOf D s := ⟨_, rfl⟩
  rw [← hr] at HC HX
  obtain ⟨D1, z⟩ := r
  have HS := Lib.hid hs
  clear hr hs h hg
  go_enter Tryd.func97, Tryd.ntmps97
  go_wp2_with fail
  refine HC.out.mono ?_
  rintro e w1 ⟨rfl, h1, hk1⟩
  have HD := Lib.hid (And.intro h1 hk1)
  have HM := Lib.hid (dremove_any base db mb L D1 s HS.out w1 h1)
  clear h1 hk1
  by_cases hz : z = 0
  · have q0 : (z != 0) = false := bneF hz
    have HY := Lib.hid (by
      obtain ⟨p, hp, hgp⟩ := HX.out.1 hz
      have := hgp g
      rw [HG.out] at this
      exact this)
    subst hz
    go_wp2_with fail
    refine HM.out.mono ?_
    rintro e w2 ⟨rfl, hx⟩
    have HXX := Lib.hid hx
    clear hx
    go_wp2
    go_ret
    rw [HG.out, HY.out]
    exact DTo.behind HD.out.2 ⟨_, rfl, HXX.out⟩
  · have q0 : (z != 0) = true := bneT hz
    have HY := Lib.hid (HX.out.2 hz)
    clear hz
    go_wp2
    go_ret
    rw [HY.out]
    exact BeganTo.to ⟨rfl, HD.out.1, HD.out.2⟩

theorem run_cut3 {P : Program} {t E : TypeId} {i : TypeInfo} (ht : P.underlying t = some (.slice E)) (hi : P.info? E = some i) (a : Option Addr) (len cap h : Nat) (hhi : h ≤ cap) (w : World) :
    (Instr.slice t (.slice a len cap) none (some (.int .i64 (h : Int))) (some (.int .i64 (h : Int)))).run P w = .ok (.slice a h h) w := by
  have e : (a.map fun x => x.add 0) = a := by cases a <;> simp [add_zero']
  simp [Instr.slice, run_underlying ht, Instr.sliceBounds, Instr.sliceBound, asIntOf, sizeOf, typeInfo, hi, e, hhi]
theorem run_cut3At {P : Program} {t E : TypeId} {i : TypeInfo} (ht : P.underlying t = some (.slice E)) (hi : P.info? E = some i) (a : Option Addr) (len cap h : Nat) (hhi : h ≤ cap) (w : World) :
    (Instr.sliceAt t (.slice a len cap) none (some (.int .i64 (h : Int))) (some (.int .i64 (h : Int)))).run P w = .ok (.slice a h h) w := by
  have he : P.elem t = E := by simp [Program.elem, ht]
  rw [run_sliceAt_slice w t _ _ _ _ (by rw [he]; exact ht)]
  exact run_cut3 ht hi a len cap h hhi w
theorem OwnB.cut {base : Nat} {w : World} {f : Fi} (h : OwnB base w f) {n : Nat} (hn : n ≤ f.b.length) (s : Nat) : OwnB base w ⟨f.a, n, f.b.take n, s⟩ := by
  rcases h with ⟨h1, h2, h3⟩ | ⟨g, cur, h1, h2, h3, h4, h5, h6, h7⟩
  · rw [h2] at hn
    have : n = 0 := by simpa using hn
    subst this
    exact .inl ⟨h1, by simp, rfl⟩
  · refine .inr ⟨g, cur, h1, h2, h3, by simp; omega, by simp only; omega, by simp only; omega, ?_⟩
    have e : (f.b.take n).length = n := by rw [List.length_take]; omega
    simp only [e]
    have := congrArg (List.take n) h7
    rw [List.take_take, Nat.min_eq_left hn] at this
    rw [this]
    unfold byV
    rw [List.map_take]
theorem file_info : (Tryd.prog.info? 114).map (·.size) = some 2 := by kernel_rfl
theorem file_end {fn : Func} {p : Tmp} {a : Act} {P : Ending → World → Prop} {w : World} {q : Nat} {x y : Value} (hres : fn.results = #[.cell p 114]) (hp : a.tmps.getD p undef = .pointer (some ⟨q, 0, none⟩)) (hd : a.defers = [])
    (hg : BoxAt w q 114 #[x, y]) (h : P (.returned (.agg #[x, y])) w) : bodyPost Tryd.prog fn P .ret a w :=
  bodyPost_ret (v := .agg #[x, y]) (results_cell_row hres _ _ q 114 _ (0, 0) _ hp hg Tryd.underlying114 rfl file_info) hd h
set_option maxRecDepth 100000 in
set_option maxHeartbeats 2000000 in
theorem fcut_any (a : Option Addr) (n c z h : Nat) (hh : h ≤ n) (hc : n ≤ c) (w : World) :
    Calls Tryd.prog 70 #[.agg #[.slice a n c, .int .i64 (z : Int)], .int .i64 (h : Int)] w fun e w' => e = .returned (.agg #[.slice a h h, .int .i64 ((min z h : Nat) : Int)]) ∧ Kept (fun _ => False) w w' := by
  obtain ⟨wa, hwa⟩ : ∃ wa, wa = w.alloc (.cells #[.slice a n c, .int .i64 (z : Int)] 114) := ⟨_, rfl⟩
  obtain ⟨q1, hq1⟩ : ∃ q, q = w.heap.size := ⟨_, rfl⟩
  obtain ⟨wb, hwb⟩ : ∃ wb, wb = wa.alloc (.cells #[.slice none 0 0, .int .i64 0] 114) := ⟨_, rfl⟩
  obtain ⟨q2, hq2⟩ : ∃ q, q = wa.heap.size := ⟨_, rfl⟩
  have ka : Kept (fun _ => False) w wa := by rw [hwa]; exact (Kept.refl _ _).alloc _
  have kb : Kept (fun _ => False) wa wb := by rw [hwb]; exact (Kept.refl _ _).alloc _
  have B1 : BoxAt wb q1 114 #[.slice a n c, .int .i64 (z : Int)] := (show BoxAt wa q1 _ _ by rw [hwa, hq1]; exact BoxAt.new w _ _).kept kb (fun x => x)
  have B2 : BoxAt wb q2 114 #[.slice none 0 0, .int .i64 0] := by rw [hwb, hq2]; exact BoxAt.new wa _ _
  have hq2' : q2 = q1 + 1 := by rw [hq2, hwa, hq1]; exact Array.size_push ..
  have HW := Lib.hid (show (w.alloc (.cells #[.slice a n c, .int .i64 (z : Int)] 114)).alloc (.cells #[.slice none 0 0, .int .i64 0] 114) = wb by rw [hwb, hwa])
  have HQ := Lib.hid (And.intro hq1 hq2')
  have HK := Lib.hid (ka.trans kb)
  have b10 : wb.cell? ⟨q1, 0, none⟩ = some (.slice a n c) := B1.cell rfl
  have b11 : wb.cell? ⟨q1, 1, none⟩ = some (.int .i64 (z : Int)) := B1.cell rfl
  have b20 : wb.cell? ⟨q2, 0, none⟩ = some (.slice none 0 0) := B2.cell rfl
  have b21 : wb.cell? ⟨q2, 1, none⟩ = some (.int .i64 0) := B2.cell rfl
  have g0 := B2.fz 0
  have g1 := B2.fz 1
  obtain ⟨iI, hiI, hzI0, hzI1, hzI2⟩ := info_parts Tryd.infoU8
  have hcut := fun w => run_cut3 (P := Tryd.prog) Tryd.underlying22 hiI a n c h (by omega) w
  have hcutA := fun w => run_cut3At (P := Tryd.prog) Tryd.underlying22 hiI a n c h (by omega) w
  have HB2 := Lib.hid B2
  clear hwa hwb hq1 hq2 hq2' ka kb B1 B2 hiI hzI0 hzI1 hzI2 hh hc
  go_enter Tryd.func70, Tryd.ntmps70
  go_upto_region 1 with fail
  rw [HW.out, ← HQ.out.1, ← HQ.out.2]
  go_region
  go_wp2
  refine file_end Tryd.results70 rfl rfl ((HB2.out.set 0 (.slice a h h)).set 1 (.int .i64 (min (z : Int) (h : Int)))) ?_
  have e : (min (z : Int) (h : Int)) = ((min z h : Nat) : Int) := by omega
  refine ⟨by rw [e], HK.out.step (S' := fun k => k = q2) (((kept_set _ q2 0 _).trans (kept_set _ q2 1 _)).drew) (fun k hk x => ?_)⟩
  have := HQ.out
  omega
end Go.Proofs.YtficodklidaheaaDoor
/- Layer 20: there, tidy. -/
namespace Go.Proofs.YtficodklidaheaaDoor
open Go.RowKit
attribute [local go_sem ↓] Go.wp_at_zero Go.wp_at_succ

theorem thereD_eq (D : DA) (s : ByteArray) : thereD D s = decide ((sizeA D s).2.2 = 0) := by
  unfold thereD sizeA
  cases D.down with
  | true => rfl
  | false =>
    cases getM D.L s with
    | none => rfl
    | some f => rfl
theorem sizeA_err (D : DA) (s : ByteArray) : (sizeA D s).2.2 = 0 ∨ (sizeA D s).2.2 = 7 ∨ (sizeA D s).2.2 = 13 := by
  unfold sizeA
  cases D.down with
  | true => exact .inr (.inr rfl)
  | false =>
    cases getM D.L s with
    | none => exact .inr (.inl rfl)
    | some f => exact .inl rfl
set_option maxRecDepth 100000 in
set_option maxHeartbeats 2000000 in
theorem sThere_any (base db mb : Nat) (L : List (ByteArray × Fi)) (D : DA) (s : ByteArray) (hs : s.size ≤ maxLen) (w : World) (h : DK base w db mb L D) :
    Calls Tryd.prog 96 #[.pointer (some ⟨db, 0, none⟩), .string s] w fun e w' => e = .returned (.bool (thereD D s)) ∧ Kept (fun _ => False) w w' := by
  have HS := Lib.hid (dSize_any base db mb L D s hs w h)
  have HT := Lib.hid (thereD_eq D s)
  have HE := Lib.hid (sizeA_err D s)
  obtain ⟨b, hb⟩ : ∃ b, b = thereD D s := ⟨_, rfl⟩
  rw [← hb] at HT ⊢
  obtain ⟨x, y, z, hx⟩ : ∃ x y z, sizeA D s = (x, y, z) := ⟨_, _, _, rfl⟩
  rw [hx] at HS HT HE
  dsimp only at HS HT HE
  clear h hb hx
  have HB : Hid (b = decide (z = 0)) := HT
  rcases HE.out with rfl | rfl | rfl
  all_goals (
    go_enter Tryd.func96, Tryd.ntmps96
    go_wp2_with fail
    refine HS.out.mono ?_
    rintro e w1 ⟨rfl, k1⟩
    have HK := Lib.hid k1
    clear k1
    go_wp2
    go_ret
    exact ⟨by rw [HB.out]; rfl, HK.out⟩)
set_option maxRecDepth 100000 in
set_option maxHeartbeats 2000000 in
theorem sTidy_any (base db mb : Nat) (L : List (ByteArray × Fi)) (D : DA) (s : ByteArray) (hs : s.size ≤ maxLen) (w : World) (h : DK base w db mb L D) :
    Calls Tryd.prog 76 #[.pointer (some ⟨db, 0, none⟩), .string s] w (DTo base w db mb L (tidyD D s)) := by
  have HT := Lib.hid (sThere_any base db mb L D s hs w h)
  have HR := Lib.hid (fun w' (k : Kept (fun _ => False) w w') => dRemove_any base db mb L D s hs w' (h.kept k (fun _ _ x => x)))
  have HH := Lib.hid h
  have HD : Hid (tidyD D s = if thereD D s = true then removeD D s else (D, 0)) := Lib.hid rfl
  clear h
  cases ht : thereD D s with
  | false =>
    rw [ht] at HT HD
    rw [HD.out]
    clear ht
    go_enter Tryd.func76, Tryd.ntmps76
    go_wp2_with fail
    refine HT.out.mono ?_
    rintro e w1 ⟨rfl, k1⟩
    have HK := Lib.hid k1
    clear k1
    go_wp2
    go_ret
    exact ⟨L, rfl, HH.out.kept HK.out (fun _ _ x => x), HK.out.mono (fun _ _ x => x.elim), Foot.refl _ _ _ _⟩
  | true =>
    rw [ht] at HT HD
    rw [HD.out]
    clear ht
    go_enter Tryd.func76, Tryd.ntmps76
    go_wp2_with fail
    refine HT.out.mono ?_
    rintro e w1 ⟨rfl, k1⟩
    have HK := Lib.hid k1
    clear k1
    go_wp2_with fail
    refine (HR.out w1 HK.out).mono ?_
    rintro e w2 ⟨L2, rfl, h2, k2, f2⟩
    have H2 := Lib.hid (And.intro h2 (And.intro k2 f2))
    clear h2 k2 f2
    go_wp2
    go_ret
    exact ⟨L2, rfl, H2.out.1, (HK.out.mono (fun _ _ x => x.elim)).trans H2.out.2.1, fun j e => (H2.out.2.2 j e).imp id (Nat.le_trans HK.out.size)⟩
end Go.Proofs.YtficodklidaheaaDoor
