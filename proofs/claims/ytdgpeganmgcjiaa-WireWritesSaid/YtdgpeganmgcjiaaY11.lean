/- package wire: getText, field. -/
import Derived.Test.YtdgpeganmgcjiaaY10
namespace Go.Proofs.Ytdgpeganmgcjiaa
open Go.RowKit
attribute [local go_sem ↓] Go.wp_at_zero Go.wp_at_succ

/-- Bytes that have their count ahead. -/
def textGot (r : List Nat) : List Nat × Nat × Nat :=
  if (gotW r).2.2 ≠ 0 then ([], 0, (gotW r).2.2) else if (r.drop (gotW r).2.1).length < (gotW r).1 then ([], 0, 2) else ((r.drop (gotW r).2.1).take (gotW r).1, (gotW r).2.1 + (gotW r).1, 0)
theorem run_cutHu {P : Program} {t E : TypeId} {i : TypeInfo} (ht : P.underlying t = some (.slice E)) (hi : P.info? E = some i) (hs : i.size = 1) (a : Option Addr) (len cap h : Nat) (hhi : h ≤ cap) (w : World) :
    (Instr.slice t (.slice a len cap) none (some (.int .u64 (h : Int))) none).run P w = .ok (.slice a h cap) w := by
  have he : P.elem t = E := by simp [Program.elem, ht]
  rw [run_slice_h w t a len cap (by rw [he]; exact ht) .u64 h (by omega) (by omega), he]
  have e : (a.map fun x => x.add 0) = a := by cases a <;> simp [add_zero']
  simp [sizeOf, typeInfo, hi, hs, sliced, e]
theorem By.cutL {w : World} {ao : Option Addr} {c : Nat} {l : List Nat} (h : By w ao c l) {s : Nat} (hs : s ≤ l.length) : By w (if c = s then ao else ao.map (·.add s)) (c - s) (l.drop s) := by
  refine ⟨?_, ?_, fun x hx => h.lt x (List.mem_of_mem_drop hx)⟩
  · have := h.at_.cutL (lo := s) hs h.cap
    rw [List.length_drop]
    have hbd : bys (l.drop s) = (bys l).drop s := by simp [bys]
    rw [hbd]; exact this
  · rw [List.length_drop]; have := h.cap; omega
theorem By.takeH {w : World} {ao : Option Addr} {c : Nat} {l : List Nat} (h : By w ao c l) {k : Nat} (hk : k ≤ l.length) : By w ao c (l.take k) := by
  refine ⟨?_, ?_, fun x hx => h.lt x (List.mem_of_mem_take hx)⟩
  · have := h.at_.takeH (k := k) hk
    rw [List.length_take, Nat.min_eq_left hk]
    have hbd : bys (l.take k) = (bys l).take k := by simp [bys]
    rw [hbd]; exact this
  · rw [List.length_take]; have := h.cap; omega

set_option maxHeartbeats 2000000 in
set_option maxRecDepth 100000 in
theorem getText_any (ao : Option Addr) (c : Nat) (l : List Nat) (w : World) (hb : By w ao c l) (hl : l.length ≤ 100000) (t : Nat) (ht : t ≤ l.length) (M : List Nat) (K E : Nat) (hM : textGot (l.drop t) = (M, K, E)) :
    Calls Try.prog 27 #[.slice ao l.length c, .int .i64 (t : Int)] w fun e w' => ∃ a c', e = .returned (.tuple #[.slice a M.length c', .int .i64 (K : Int), .int .i64 (E : Int)]) ∧ Mine w w' 5 (.slice a M.length c') (bys M) := by
  obtain ⟨iI, hiI, hzI0, hzI1, hzI2⟩ := info_parts Try.infoU8
  have hgv := getVar_any ao c l w hb (by omega) t ht (gotW (l.drop t)).1 (gotW (l.drop t)).2.1 (gotW (l.drop t)).2.2 rfl
  obtain ⟨g1, g2, g3, g4⟩ := gotW_le (l.drop t) (fun x hx => hb.lt x (List.mem_of_mem_drop hx))
  unfold textGot at hM
  obtain ⟨V, hV⟩ : ∃ V, V = (gotW (l.drop t)).1 := ⟨_, rfl⟩
  obtain ⟨N, hN⟩ : ∃ V, V = (gotW (l.drop t)).2.1 := ⟨_, rfl⟩
  obtain ⟨F, hF⟩ : ∃ V, V = (gotW (l.drop t)).2.2 := ⟨_, rfl⟩
  rw [← hV, ← hN, ← hF] at hgv hM
  rw [← hN] at g1 g2
  rw [← hF] at g2
  rw [← hV] at g4
  rw [List.length_drop] at g1
  rw [List.drop_drop] at hM
  have HGV := Lib.hid hgv
  have hbc := hb.cap
  have hcut := hb.cutL (s := t + N) (by omega)
  have c1 : ∀ w, (Instr.slice 25 (.slice ao l.length c) (some (.int .i64 ((t + N : Nat) : Int))) none none).run Try.prog w = .ok (.slice (if c = t + N then ao else ao.map (·.add (t + N))) (l.length - (t + N)) (c - (t + N))) w := fun w => run_cutL Try.underlying25 hiI hzI1 ao l.length c (t + N) (by omega) w
  obtain ⟨S, hS⟩ : ∃ S, S = t + N := ⟨_, rfl⟩
  have hs1 : (t : Int) + (N : Int) = (S : Int) := by omega
  rw [← hS] at hcut c1 hM
  obtain ⟨bo, hbo⟩ : ∃ bo, bo = (if c = S then ao else ao.map (·.add S)) := ⟨_, rfl⟩
  rw [← hbo] at hcut c1
  obtain ⟨d, hd⟩ : ∃ d, d = c - S := ⟨_, rfl⟩
  rw [← hd] at hcut c1
  obtain ⟨r, hr⟩ : ∃ r, r = l.drop S := ⟨_, rfl⟩
  have hrl : r.length = l.length - S := by rw [hr, List.length_drop]
  rw [← hr] at hcut hM
  obtain ⟨q, hq⟩ : ∃ q, q = l.length - S := ⟨_, rfl⟩
  rw [← hq] at c1 hrl
  obtain ⟨n, hn⟩ : ∃ n, n = l.length := ⟨_, rfl⟩
  rw [← hn] at HGV c1 ⊢
  have hdc := hcut.cap
  have HCUT := Lib.hid hcut
  have HN1 := Lib.hid (show q ≤ 100000 by omega)
  have HM := Lib.hid hM
  have b0 : (0 : Int) ≤ (t : Int) := by omega
  have b1 : (t : Int) ≤ 100000 := by omega
  have b2 : (N : Int) ≤ 100000 := by omega
  have b3 : (S : Int) ≤ 100000 := by omega
  have b4 : (q : Int) ≤ 100000 := by omega
  rw [hrl] at hdc
  clear hgv hbc hcut hV hN hF g1 g2 g3 hS hbo hd hr hq hn hb hl ht
  by_cases hF0 : F ≠ 0
  · have hq : ((F : Int) != 0) = true := bneT (by omega)
    have HF := Lib.hid hF0
    clear hM hF0 hrl c1 hs1
    go_enter Try.func27, Try.ntmps27
    go_wp2_with (go_at_call 18; refine HGV.out.mono ?_; rintro e w' ⟨rfl, rfl⟩)
    go_ret3
    have h := HM.out
    rw [if_pos HF.out] at h
    injection h with h1 h
    injection h with h2 h3
    subst h1 h2 h3
    exact ⟨none, 0, rfl, Mine.nil _ _⟩
  · have hF1 : F = 0 := by omega
    subst hF1
    rw [if_neg hF0] at hM
    rw [hrl] at hM
    by_cases hlt : q < V
    · rw [if_pos hlt] at hM
      have HM := Lib.hid hM
      have q1 : (q : Int) < (V : Int) := by omega
      clear hM hlt hF0 hrl hdc
      go_enter Try.func27, Try.ntmps27
      go_wp2_with (go_at_call 18; refine HGV.out.mono ?_; rintro e w' ⟨rfl, rfl⟩)
      go_ret3
      have h := HM.out
      injection h with h1 h
      injection h with h2 h3
      subst h1 h2 h3
      exact ⟨none, 0, rfl, Mine.nil _ _⟩
    · rw [if_neg hlt] at hM
      have HM := Lib.hid hM
      have q1 : ¬ (q : Int) < (V : Int) := by omega
      have q2 : (V : Int) ≤ 100000 := by omega
      have c2 : ∀ w, (Instr.slice 25 (.slice bo q d) none (some (.int .u64 (V : Int))) none).run Try.prog w = .ok (.slice bo V d) w := fun w => run_cutHu Try.underlying25 hiI hzI1 bo q d V (by omega) w
      have hrv : (r.take V).length = V := by rw [List.length_take]; omega
      have hcl := wclone_any bo d (r.take V) w (HCUT.out.takeH (by omega)) (by omega)
      rw [hrv] at hcl
      have HCL := Lib.hid hcl
      have HRV := Lib.hid hrv
      clear hM hlt hF0 hrl hdc hcl hrv
      go_enter Try.func27, Try.ntmps27
      go_wp2_with (first
        | (go_at_call 18; refine HGV.out.mono ?_; rintro e w' ⟨rfl, rfl⟩)
        | (go_at_call 28; refine HCL.out.mono ?_; rintro e w1 ⟨a1, c1, rfl, hm1⟩; have HM1 := Lib.hid hm1; clear hm1))
      go_ret3
      have h := HM.out
      injection h with h1 h
      injection h with h2 h3
      subst h1 h2 h3
      rw [HRV.out]
      exact ⟨a1, c1, rfl, HM1.out⟩
end Go.Proofs.Ytdgpeganmgcjiaa
