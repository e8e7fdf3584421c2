/- package wire: Decode. -/
import Derived.Test.YtdgpeganmgcjiaaY12
namespace Go.Proofs.Ytdgpeganmgcjiaa
open Go.RowKit
attribute [local go_sem ↓] Go.wp_at_zero Go.wp_at_succ

/-- The fields of a row. -/
def recsR (M : List PR) : List FR := M.map (·.r)
set_option maxHeartbeats 4000000 in
set_option maxRecDepth 100000 in
theorem wDecode_any (ao : Option Addr) (c : Nat) (l : List Nat) (w : World) (hb : By w ao c l) (hl : l.length ≤ 100000) (R : List FR) (T E : Nat) (hR : decM l = (R, T, E)) :
    Calls Try.prog 10 #[.slice ao l.length c] w fun e w' => ∃ M a c', recsR M = R ∧ e = .returned (.tuple #[.slice a M.length c', .int .i64 (T : Int), .int .i64 (E : Int)]) ∧ MineF w.heap.size w w' (.slice a M.length c') M := by
  have HB := Lib.hid hb
  have HL := Lib.hid hl
  obtain ⟨n, hn⟩ : ∃ n, n = l.length := ⟨_, rfl⟩
  have HN := Lib.hid hn
  have HRR : Hid (decA n [] 0 l = (R, T, E)) := Lib.hid (by rw [hn]; exact hR)
  have hl9 : (n : Int) ≤ 100000 := by omega
  have HG := Lib.hid fun (w' : World) (hk : Kept (fun _ => False) w w') (t : Nat) (ht : t ≤ l.length) => wfield_any ao c l w' (hb.kept hk) hl t ht (fieldW (l.drop t)).1 (fieldW (l.drop t)).2.1 (fieldW (l.drop t)).2.2 rfl
  have HGL := Lib.hid fun (t : Nat) (h : (fieldW (l.drop t)).2.2 = 0) => fieldW_got (l.drop t) (fun x hx => hb.lt x (List.mem_of_mem_drop hx)) h (by rw [List.length_drop]; omega)
  rw [← hn] at HG ⊢
  clear hb hl hn hR
  go_enter Try.func10, Try.ntmps10
  go_wp2
  go_loopg [2, 3] n (fun x s2 s3 wr => ∃ (k t : Nat) (acc : List PR), x = 0 + k ∧ t ≤ n ∧ n - t ≤ k ∧ acc.length ≤ t ∧ s3 = .int .i64 t ∧ decA k (recsR acc) t (l.drop t) = (R, T, E) ∧ MineF w.heap.size w wr s2 acc)
  case atStart => exact ⟨n, 0, [], by omega, Nat.zero_le _, by omega, by simp, rfl, by simpa [recsR] using HRR.out, MineF.nil _ _⟩
  case round =>
    obtain ⟨k, t, acc, rfl, htn, hk, hacc, rfl, hu, hm⟩ := hrel
    obtain ⟨a4, c4, e4⟩ := hm.slice
    subst e4
    have HM := Lib.hid hm
    have HU := Lib.hid hu
    have HA := Lib.hid hacc
    have HT := Lib.hid htn
    have HK := Lib.hid hk
    obtain ⟨m, hmm⟩ : ∃ m, m = acc.length := ⟨_, rfl⟩
    have HMM := Lib.hid hmm
    rw [← hmm] at HM ⊢
    clear hmm hu hm hacc
    by_cases hd : t < n
    · obtain ⟨k, rfl⟩ : ∃ k', k = k' + 1 := ⟨k - 1, by omega⟩
      have hgv := HG.out wr HM.out.kept t (by have := HN.out; omega)
      have hgl := HGL.out t
      have hU := HU.out
      unfold decA at hU
      rw [if_neg (by rw [List.length_drop]; have := HN.out; omega)] at hU
      rw [List.length_drop, ← HN.out] at hgl
      have hdd : ∀ x, (l.drop t).drop x = l.drop (t + x) := fun x => by rw [List.drop_drop]
      rw [hdd] at hU
      obtain ⟨F, hV⟩ : ∃ V, V = (fieldW (l.drop t)).1 := ⟨_, rfl⟩
      obtain ⟨N, hN⟩ : ∃ V, V = (fieldW (l.drop t)).2.1 := ⟨_, rfl⟩
      obtain ⟨G, hF⟩ : ∃ V, V = (fieldW (l.drop t)).2.2 := ⟨_, rfl⟩
      rw [← hV, ← hN, ← hF] at hgv hgl
      rw [← hV, ← hN, ← hF] at hU
      have HGV := Lib.hid hgv
      have hdi : (t : Int) < (n : Int) := by omega
      have hdi0 : (0 : Int) ≤ (t : Int) := by omega
      have HD := Lib.hid hd
      clear hV hN hF hgv hdd htn hk
      by_cases hF0 : G ≠ 0
      · rw [if_pos hF0] at hU
        have hq : ((G : Int) != 0) = true := bneT (by omega)
        have HUU := Lib.hid hU
        clear hU hF0 hd hgl
        go_wp2_with (go_at_call 23; refine HGV.out.mono ?_; rintro e w1 ⟨num, ty, v, a, m', c', kk, rfl, hk1, _⟩; have HK1 := Lib.hid hk1; clear hk1)
        go_ret3
        have h := HUU.out
        injection h with h1 h2
        injection h2 with h2 h3
        subst h1 h2 h3
        exact ⟨[], none, 0, rfl, rfl, World.ownsRow_nil _ _ _ _, by simp, by simp, (HM.out.kept.trans HK1.out).alloc _⟩
      · rw [if_neg hF0] at hU
        have hF1 : G = 0 := by omega
        subst hF1
        obtain ⟨_, _, hFok, _, hN1, hN2⟩ := hgl rfl
        have s1 : (t : Int) + (N : Int) ≤ 100000 := by omega
        have HUU := Lib.hid hU
        have HNN := Lib.hid (And.intro hN1 hN2)
        clear hU hF0 hd hgl hN1 hN2 hFok
        go_wp2_with fail
        refine HGV.out.mono ?_
        rintro e w1 ⟨num, ty, v, a, m', c', kk, rfl, hk1, hh⟩
        obtain ⟨rfl, rfl, rfl, rfl, rfl, hok, hfr⟩ := hh rfl
        have HK1 := Lib.hid hk1
        have HOK := Lib.hid hok
        have HFR := Lib.hid hfr
        have HC : Hid (cellsP ⟨F, a, c'⟩ = [.int .i64 F.num, .int .i64 F.ty, .int .u64 (F.v : Int), .slice a F.b.length c']) := Lib.hid rfl
        obtain ⟨pn, hpn⟩ : ∃ x, x = F.num := ⟨_, rfl⟩
        obtain ⟨pt, hpt⟩ : ∃ x, x = F.ty := ⟨_, rfl⟩
        obtain ⟨pv, hpv⟩ : ∃ x, x = F.v := ⟨_, rfl⟩
        obtain ⟨pl, hpl⟩ : ∃ x, x = F.b.length := ⟨_, rfl⟩
        have HSRC : Hid (∀ (w : World), Src Try.prog 4 22 (.slice (some ⟨w.heap.size, 0, none⟩) 1 1) 1 [.int .i64 F.num, .int .i64 F.ty, .int .u64 (F.v : Int), .slice a F.b.length c'] (w.alloc (.cells #[.int .i64 F.num, .int .i64 F.ty, .int .u64 (F.v : Int), .slice a F.b.length c'] 40))) := Lib.hid fun w => src_oneF w ⟨F, a, c'⟩
        rw [← hpn, ← hpt, ← hpv, ← hpl] at HC HSRC ⊢
        have HWB := Lib.hid (heap_alloc_new w1 (.cells #[.int .i64 pn, .int .i64 pt, .int .u64 (pv : Int), .slice a pl c'] 40))
        have HKB := Lib.hid (hk1.alloc (.cells #[.int .i64 pn, .int .i64 pt, .int .u64 (pv : Int), .slice a pl c'] 40))
        have HOB := Lib.hid (hok.kept ((Kept.refl (fun _ => False) w1).alloc (.cells #[.int .i64 pn, .int .i64 pt, .int .u64 (pv : Int), .slice a pl c'] 40)))
        obtain ⟨wb, hwb⟩ : ∃ wb, wb = w1.alloc (.cells #[.int .i64 pn, .int .i64 pt, .int .u64 (pv : Int), .slice a pl c'] 40) := ⟨_, rfl⟩
        rw [← hwb] at HWB HKB HOB
        have HWE := Lib.hid hwb
        clear hpn hpt hpv hpl hk1 hok hfr hh hwb
        go_upto_region 3 with fail
        rw [← HWE.out]
        have hbx := box4 HWB.out
        go_wp2_with (at_builtin; refine wpList_mineF rfl (.tmp 23) (.tmp 25) rfl w.heap.size w _ _ rfl (HM.out.on (HKB.out.alloc _)) _ ⟨F, a, c'⟩ rfl (by rw [HC.out]; exact HSRC.out _) (HOB.out.kept ((Kept.refl _ _).alloc _)) (fun _ x hx => ⟨fun e => by
              have h1 := (ownsRow_lt HM.out.own e).1
              have h2 := (HFR.out x hx).1
              omega, by have h2 := (HFR.out x hx).1; have h3 := HM.out.kept.size; omega⟩) (by have := HMM.out; have := HA.out; have := HT.out; omega) ?_; intro v6 w6 hm6 _; have HM6 := Lib.hid hm6; clear hm6)
        go_roundg k
        case measure => omega
        case rel => exact ⟨k, t + N, acc ++ [⟨F, a, c'⟩], by omega, by have := HNN.out; have := HD.out; omega, by have := HNN.out; have := HK.out; omega, by have := HNN.out; have := HA.out; simp; omega, by go_num, by have := HUU.out; unfold recsR at this ⊢; rw [List.map_append]; exact this, HM6.out⟩
    · have htn2 : t = n := by omega
      have HUU := Lib.hid (show recsR acc = R ∧ 0 = T ∧ 0 = E by
        have h := HU.out
        have h0 : (l.drop t).length = 0 := by rw [List.length_drop]; have := HN.out; omega
        cases k with
        | zero => simp only [decA] at h; injection h with h1 h2; injection h2 with h2 h3; exact ⟨h1, h2, h3⟩
        | succ k => unfold decA at h; rw [if_pos h0] at h; injection h with h1 h2; injection h2 with h2 h3; exact ⟨h1, h2, h3⟩)
      subst htn2
      clear hd htn hk
      go_wp2
      go_ret3
      obtain ⟨h1, rfl, rfl⟩ := HUU.out
      have hm := HM.out
      rw [HMM.out] at hm ⊢
      exact ⟨acc, a4, c4, h1, rfl, hm⟩
end Go.Proofs.Ytdgpeganmgcjiaa
