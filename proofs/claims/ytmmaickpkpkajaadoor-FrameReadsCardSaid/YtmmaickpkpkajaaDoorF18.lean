/- The walk of 'FrameBack'. -/
import Derived.Test.YtmmaickpkpkajaaDoorF17
namespace Go.Proofs.YtmmaickpkpkajaaDoor
open Go.RowKit
attribute [local go_sem ↓] Go.wp_at_zero Go.wp_at_succ

theorem infoInt : (Tryd.prog.info? 3).map (fun i => (i.zero, i.size, i.bytes)) = some (some (.int .i64 0), 1, 8) := by kernel_rfl
/-- How many bytes the first m frames have. -/
def EN (Ls : List (List Nat)) (m : Nat) : Nat := (allL (Ls.take m)).length
def endsV (Ls : List (List Nat)) (j : Nat) : List Value := (List.range j).map fun i => Value.int .i64 ((EN Ls (i + 1) : Nat) : Int)
theorem take_succ (Ls : List (List Nat)) (j : Nat) (h : j < Ls.length) : Ls.take (j + 1) = Ls.take j ++ [Ls.getD j []] := by
  rw [List.take_add_one, List.getD_eq_getElem?_getD, List.getElem?_eq_getElem h]; rfl
theorem all_succ (Ls : List (List Nat)) (j : Nat) (h : j < Ls.length) : allL (Ls.take (j + 1)) = allL (Ls.take j) ++ frameL (Ls.getD j []) := by rw [take_succ Ls j h, allL_append, allL_one]
theorem EN_succ (Ls : List (List Nat)) (j : Nat) (h : j < Ls.length) : EN Ls (j + 1) = EN Ls j + (9 + (Ls.getD j []).length) := by
  unfold EN; rw [all_succ Ls j h, List.length_append, frameL_len]
theorem endsV_succ (Ls : List (List Nat)) (j : Nat) : endsV Ls (j + 1) = endsV Ls j ++ [.int .i64 ((EN Ls (j + 1) : Nat) : Int)] := by simp [endsV, List.range_succ]
theorem endsV_at (Ls : List (List Nat)) (j n : Nat) (h : j < n) : (endsV Ls n)[j]? = some (.int .i64 ((EN Ls (j + 1) : Nat) : Int)) := by simp [endsV, h]
theorem endsV_len (Ls : List (List Nat)) (n : Nat) : (endsV Ls n).length = n := by simp [endsV]
theorem allL_lt (Ls : List (List Nat)) (h : ∀ l ∈ Ls, ∀ x ∈ l, x < 256) : ∀ x ∈ allL Ls, x < 256 := by
  intro x hx
  simp only [allL, List.mem_flatten, List.mem_map] at hx
  obtain ⟨_, ⟨l, hl, rfl⟩, hx⟩ := hx
  exact frameL_lt l (h l hl) x hx
theorem EN_le (Ls : List (List Nat)) (h : ∀ l ∈ Ls, l.length ≤ 3000) : ∀ j, j ≤ Ls.length → EN Ls j ≤ 3009 * j := by
  intro j
  induction j with
  | zero => intro _; simp [EN, allL]
  | succ j ih =>
    intro hj
    rw [EN_succ Ls j (by omega)]
    have := ih (by omega)
    have h2 : (Ls.getD j []).length ≤ 3000 := h _ (by rw [List.getD_eq_getElem?_getD, List.getElem?_eq_getElem (by omega)]; simp)
    omega

/-- Behind j rounds of the first loop. -/
structure B1 (W : World) (Ls : List (List Nat)) (j : Nat) (vA vE : Value) (w : World) : Prop where
  all : w.ownsRow W.heap.size 5 1 vA (EN Ls j) (b8 (allL (Ls.take j)))
  ends : w.ownsRow W.heap.size 3 1 vE j (endsV Ls j)
  kept : Kept (fun _ => False) W w
theorem kept_row {w w' : World} {v : Value} (hg : w.grownBy w' v.ownBlock) : Kept (fun k => some k = v.ownBlock) w w' := ⟨hg.os, hg.tape, hg.output, hg.size, fun k hk hn => hg.block k hk hn⟩
theorem B1.mid {W w w1 w2 : World} {Ls : List (List Nat)} {j : Nat} {vA vE vA2 : Value} (h : B1 W Ls j vA vE w) (h1 : Kept (fun _ => False) w w1) (hj : j < Ls.length) {n : Nat} (hn : n = EN Ls j + (9 + (Ls.getD j []).length))
    (hown : w2.ownsRow W.heap.size 5 1 vA2 n (b8 (allL (Ls.take j)) ++ b8 (frameL (Ls.getD j [])))) (hg : w1.grownBy w2 vA.ownBlock) :
    w2.ownsRow W.heap.size 5 1 vA2 (EN Ls (j + 1)) (b8 (allL (Ls.take (j + 1)))) ∧ w2.ownsRow W.heap.size 3 1 vE j (endsV Ls j) ∧ Kept (fun _ => False) W w2 := by
  have hA1 := h1.owns h.all (fun _ _ x => x)
  have hE1 := h1.owns h.ends (fun _ _ x => x)
  refine ⟨?_, ?_, (h.kept.trans h1).grown hg (fun k e hlt => by have := (ownsRow_lt hA1 e).2; omega)⟩
  · rw [EN_succ Ls j hj, all_succ Ls j hj, b8_append, ← hn]; exact hown
  · refine (kept_row hg).owns hE1 (fun k e x => ?_)
    obtain ⟨c1, e1⟩ := ownsRow_block hE1 e
    obtain ⟨c2, e2⟩ := ownsRow_block hA1 x.symm
    rw [e1] at e2
    simp at e2
theorem B1.next {W w w2 : World} {Ls : List (List Nat)} {j : Nat} {vA vE vE2 : Value} (hA : w.ownsRow W.heap.size 5 1 vA (EN Ls (j + 1)) (b8 (allL (Ls.take (j + 1))))) (hE : w.ownsRow W.heap.size 3 1 vE j (endsV Ls j)) (hK : Kept (fun _ => False) W w)
    (o : Obj) (hown : w2.ownsRow W.heap.size 3 1 vE2 (j + 1) (endsV Ls j ++ [.int .i64 ((EN Ls (j + 1) : Nat) : Int)])) (hg : (w.alloc o).grownBy w2 vE.ownBlock) : B1 W Ls (j + 1) vA vE2 w2 := by
  have h1 : Kept (fun _ => False) w (w.alloc o) := (Kept.refl _ w).alloc o
  have hA1 := h1.owns hA (fun _ _ x => x)
  have hE1 := h1.owns hE (fun _ _ x => x)
  refine ⟨?_, by rw [endsV_succ]; exact hown, (hK.trans h1).grown hg (fun k e hlt => by have := (ownsRow_lt hE1 e).2; omega)⟩
  refine (kept_row hg).owns hA1 (fun k e x => ?_)
  obtain ⟨c1, e1⟩ := ownsRow_block hA1 e
  obtain ⟨c2, e2⟩ := ownsRow_block hE1 x.symm
  rw [e1] at e2
  simp at e2
theorem own_RowsAt {w : World} {B C : Nat} {v : Value} {vs : List Value} {Ls : List (List Nat)} (hb : ∀ l ∈ Ls, ∀ x ∈ l, x < 256) (ho : w.ownsRow B 22 1 v vs.length vs) (hr : Rows8 w C vs Ls) : RowsAt w v Ls := by
  have hl := hr.length
  obtain ⟨ao, c, rfl⟩ := ownsRow_slice ho
  rw [hl]
  refine ⟨ao, c, rfl, fun i hi => ?_⟩
  obtain ⟨u, hu, h8⟩ := hr.at_ i hi
  obtain ⟨g, cap, hv, _, _⟩ := own_at ho (by omega)
  injection hv with h1 h2 h3
  subst h1
  have hc := ho.cells (g := g) rfl i u hu
  obtain ⟨ai, ci, rfl⟩ := ownsRow_slice h8
  exact ⟨_, ai, ci, rfl, hc, row8_own (hb _ (by rw [List.getD_eq_getElem?_getD, List.getElem?_eq_getElem hi]; simp)) h8⟩

set_option maxHeartbeats 4000000 in
set_option maxRecDepth 100000 in
theorem back_over (ao : Option Addr) (c : Nat) (Ls : List (List Nat)) (k : Int) (W : World) (HR : RowsAt W (.slice ao Ls.length c) Ls) (HN : Nibs W) (hL : Ls.length ≤ 9223372036854775807) (hb : ∀ l ∈ Ls, l.length ≤ 9223372036854775807) (h60 : decide ((60 : Int) < (Ls.length : Int)) = true) :
    Calls Tryd.prog 6 #[.slice ao Ls.length c, .int .i64 k] W fun e w' => e = .returned (.bool true) ∧ Kept (fun _ => False) W w' := by
  have HA := Lib.hid (awake_any W HN)
  have HBU := Lib.hid (fun w1 (hk : Kept (fun _ => False) W w1) => bulk_any (.slice ao Ls.length c) Ls hL w1 (HR.kept hk) hb)
  clear HR HN hb
  go_enter Tryd.func6, Tryd.ntmps6
  go_wp2_with (first
    | (go_at_call 8; refine HA.out.mono ?_; rintro e w1 ⟨rfl, hk1⟩; have H1 := Lib.hid hk1; clear hk1)
    | (go_at_call 17; refine (HBU.out _ H1.out).mono ?_; rintro e w' ⟨n, rfl, hb, rfl⟩; have HB3 := Lib.hid hb; clear hb; by_cases hn : (3000 : Int) < (n : Int)))
  all_goals go_ret
  all_goals exact ⟨rfl, H1.out⟩

set_option maxHeartbeats 4000000 in
set_option maxRecDepth 100000 in
theorem back_in (ao : Option Addr) (c : Nat) (Ls : List (List Nat)) (k : Nat) (W : World) (HR : RowsAt W (.slice ao Ls.length c) Ls) (HN : Nibs W) (hL : Ls.length ≤ 9223372036854775807) (hb : ∀ l ∈ Ls, l.length ≤ 9223372036854775807) (c60 : decide ((60 : Int) < (Ls.length : Int)) = false) (hcap : Ls.length ≤ c) (hb8 : ∀ l ∈ Ls, ∀ x ∈ l, x < 256) (hk : (k : Nat) ≤ EN Ls Ls.length) :
    Calls Tryd.prog 6 #[.slice ao Ls.length c, .int .i64 k] W fun e w' => e = .returned (.bool true) ∧ Kept (fun _ => False) W w' := by
  have HA := Lib.hid (awake_any W HN)
  have HBU := Lib.hid (fun w1 (hk : Kept (fun _ => False) W w1) => bulk_any (.slice ao Ls.length c) Ls hL w1 (HR.kept hk) hb)
  obtain ⟨i0, hi, hz0, hz1, hz2⟩ := info_parts info_u8
  obtain ⟨i1, hi', hz0', hz1', hz2'⟩ := info_parts infoInt
  obtain ⟨i2, hi2, hy0, hy1, hy2⟩ := info_parts infoRow
  have HR' := Lib.hid HR
  have HN' := Lib.hid HN
  have HB8 := Lib.hid hb8
  have h60 : ¬ (60 : Int) < (Ls.length : Int) := of_decide_eq_false c60
  obtain ⟨N, hN⟩ : ∃ N, N = Ls.length := ⟨_, rfl⟩
  have HNL := Lib.hid hN
  rw [← hN] at HR' HBU c60 h60 hL hcap ⊢
  clear HR HN hb hb8 hN
  go_enter Tryd.func6, Tryd.ntmps6
  go_wp2_with (first
    | (go_at_call 8; refine HA.out.mono ?_; rintro e w1 ⟨rfl, hk1⟩; have H1 := Lib.hid hk1; clear hk1)
    | (go_at_call 17; refine (HBU.out _ H1.out).mono ?_; rintro e w' ⟨n, rfl, hb, rfl⟩; have HB3 := Lib.hid hb; clear hb; by_cases hn : (3000 : Int) < (n : Int)))
  · go_ret
    exact ⟨rfl, H1.out⟩
  have hN60 : N ≤ 60 := by omega
  have HLE : Hid (∀ l ∈ Ls, l.length ≤ 3000) := Lib.hid (HB3.out (by omega))
  have HRW := Lib.hid (HR'.out.kept H1.out)
  go_loopw [5, 6, 7] (fun x y t wr => ∃ j : Nat, j ≤ N ∧ t = .int .i64 j ∧ B1 W Ls j x y wr) (fun _ _ t _ => N - (intOf t).toNat)
  case atStart => exact ⟨0, by omega, rfl, World.ownsRow_nil _ _ _ _, World.ownsRow_nil _ _ _ _, H1.out⟩
  case round =>
    obtain ⟨j, hj, rfl, hb1⟩ := hrel
    have HB1 := Lib.hid hb1
    clear hb1
    by_cases hd : j < N
    · have hd' : (j : Int) < (N : Int) := by omega
      have hj0 : (0 : Int) ≤ (j : Int) := by omega
      have hjL : j < Ls.length := by rw [← HNL.out]; exact hd
      obtain ⟨aR, cR, hvR, hcR⟩ := HR'.out
      obtain ⟨a, ai, ci, hao, h1, h2⟩ := hcR j hjL
      injection hvR with e1 e2 e3
      subst e1; subst e3; subst hao
      clear e2
      have g1 := HB1.out.kept.cell h1 (fun x => x)
      obtain ⟨p, hp⟩ : ∃ p, p = Ls.getD j [] := ⟨_, rfl⟩
      have hpl : p.length ≤ 3000 := HLE.out p (by rw [hp, List.getD_eq_getElem?_getD, List.getElem?_eq_getElem hjL]; simp)
      rw [← hp] at g1 h2
      have HE0 := EN_le Ls HLE.out j (by omega)
      have HE1 := EN_succ Ls j hjL
      rw [← hp] at HE1
      obtain ⟨M, hM⟩ : ∃ M, M = p.length := ⟨_, rfl⟩
      have HMM := Lib.hid hM
      rw [← hM] at g1 hpl HE1
      obtain ⟨N9, hN9⟩ : ∃ N9, N9 = 9 + M := ⟨_, rfl⟩
      have HWr := Lib.hid (fun w h => wrap_at (.slice ai p.length ci) p (by omega) N9 (by omega) _ w h (h2.kept HB1.out.kept) (HN'.out.kept HB1.out.kept))
      have HPB := Lib.hid (frameL_lt p h2.lt)
      have hfl : (frameL p).length = N9 := by rw [frameL_len, hN9, hM]
      rw [← hM] at HWr
      have HFL := Lib.hid hfl
      have HP := Lib.hid hp
      obtain ⟨a5, c5, hx⟩ := ownsRow_slice HB1.out.all
      obtain ⟨a6, c6, hy⟩ := ownsRow_slice HB1.out.ends
      subst hx; subst hy
      obtain ⟨E0, hE0⟩ : ∃ E0, E0 = EN Ls j := ⟨_, rfl⟩
      have HEE := Lib.hid hE0
      have HBX := HB1
      have HA0 : Hid (wr.ownsRow W.heap.size 5 1 (.slice a5 E0 c5) E0 (b8 (allL (Ls.take j)))) := Lib.hid (by have := HB1.out.all; rw [← hE0] at this; exact this)
      have HMID : Hid (∀ w1 w2 vA2, Kept (fun _ => False) wr w1 → w2.ownsRow W.heap.size 5 1 vA2 (E0 + N9) (b8 (allL (Ls.take j)) ++ b8 (frameL p)) → w1.grownBy w2 (Value.slice a5 E0 c5).ownBlock →
          w2.ownsRow W.heap.size 5 1 vA2 (EN Ls (j + 1)) (b8 (allL (Ls.take (j + 1)))) ∧ w2.ownsRow W.heap.size 3 1 (.slice a6 j c6) j (endsV Ls j) ∧ Kept (fun _ => False) W w2) := Lib.hid fun w1 w2 vA2 hk1 ho hg => HB1.out.mid hk1 hjL (by rw [← hE0, ← hp, ← hM, ← hN9]) (by rw [← hp]; exact ho) (by rw [← hE0]; exact hg)
      obtain ⟨E1, hE1⟩ : ∃ E1, E1 = EN Ls (j + 1) := ⟨_, rfl⟩
      have HE1' := Lib.hid hE1
      have hE01 : E0 + N9 = E1 := by omega
      have hE1b : E1 ≤ 200000 := by omega
      rw [← hE0]
      rw [← hE1, hE01] at HMID
      have en : ((0 : Int) != 0) = false := rfl
      clear h1 h2 hcR hp hM hN9 hfl hE0 hE1 HE0 HE1 hpl HB1
      go_wp2_with (first
        | (go_at_call 10; refine (HWr.out _ (Kept.refl _ _)).mono ?_; intro e w2 h1; obtain ⟨g, cap, rfl, ho, hk⟩ := h1; have HO := Lib.hid ho; have HK := Lib.hid hk; clear ho hk)
        | (at_builtin; refine wpList_append_src _ rfl (.tmp 43) (.tmp 44) 22 22 rfl W.heap.size 5 i0 (.int .u8 0) 1 1 Tryd.underlying22 hi hz0 hz1 hz2 rfl (.slice a5 E0 c5) E0 (b8 (allL (Ls.take j))) rfl ?c0 (.slice (some ⟨g, 0, none⟩) N9 cap) N9 (b8 (frameL p)) rfl ?cs ?c1 ?c2 ?c3 ?_))
      case c0 => exact HK.out.owns HA0.out (fun _ _ x => x)
      case cs => have := (row8_own HPB.out HO.out).src'; rw [HFL.out] at this; exact this
      case c1 => unfold maxLen; omega
      case c2 => omega
      case c3 => have := HBX.out.kept.size; have := HK.out.size; omega
      intro v2 w3 hown hgr _ hat
      try rw [hE01] at hown
      obtain ⟨m1, m2, m3⟩ := HMID.out _ _ _ HK.out hown hgr
      obtain ⟨a2, c2, rfl⟩ := ownsRow_slice hown
      have M1 := Lib.hid m1
      have M2 := Lib.hid m2
      have M3 := Lib.hid m3
      try rw [hE01]
      clear m1 m2 m3 hown hgr hat HMID HA0 HO HK hE01
      go_wp2_with (at_builtin; refine wpList_append_src _ rfl (.tmp 46) (.tmp 49) 44 44 rfl W.heap.size 3 i1 (.int .i64 0) 1 8 Tryd.underlying44 hi' hz0' hz1' hz2' rfl (.slice a6 j c6) j (endsV Ls j) rfl ?c0 (.slice (some ⟨w3.heap.size, 0, none⟩) 1 1) 1 [.int .i64 (E1 : Int)] rfl ?cs ?c1 ?c2 ?c3 ?_)
      case c0 => exact ((Kept.refl (fun _ => False) w3).alloc _).owns M2.out (fun _ _ x => x)
      case cs => exact src_one _ Tryd.underlying44 _ rfl
      case c1 => unfold maxLen; omega
      case c2 => omega
      case c3 => have := M3.out.size; simp; omega
      intro vE2 w4 hown hgr _ hat
      have HB2 : B1 W Ls (j + 1) (.slice a2 E1 c2) vE2 w4 := B1.next (by rw [← HE1'.out]; have := M1.out; exact this) M2.out M3.out _ (by rw [← HE1'.out]; exact hown) hgr
      have HB2' := Lib.hid HB2
      clear HB2 hown hgr hat
      go_wp2
      go_roundw
      case rel => exact ⟨j + 1, hd, by go_num, HB2'.out⟩
      case measure => simp [intOf]; omega
    · have hjN : N = j := by omega
      subst hjN
      obtain ⟨wA, rfl⟩ : ∃ x, x = wr := ⟨_, rfl⟩
      obtain ⟨a5, c5, hx⟩ := ownsRow_slice HB1.out.all
      obtain ⟨a6, c6, hy⟩ := ownsRow_slice HB1.out.ends
      subst hx; subst hy
      have hAll : Ls.take N = Ls := by rw [HNL.out, List.take_length]
      have HE0 := EN_le Ls HLE.out N (by rw [← HNL.out]; exact Nat.le_refl _)
      have HOA : Hid (wA.ownsRow W.heap.size 5 1 (.slice a5 (EN Ls N) c5) (EN Ls N) (b8 (allL Ls))) := Lib.hid (by have := HB1.out.all; rw [hAll] at this; exact this)
      have HEA : Hid (EN Ls N = (allL Ls).length) := Lib.hid (by unfold EN; rw [hAll])
      have hkE : k ≤ EN Ls N := by rw [HNL.out]; exact hk
      obtain ⟨E, hE⟩ : ∃ E, E = EN Ls N := ⟨_, rfl⟩
      rw [← hE] at HOA HEA hkE HE0 ⊢
      have HEE := Lib.hid hE
      have hcA := own_cap HOA.out
      have q1 : decide ((k : Int) < 0) = false := decide_eq_false (by omega)
      have q2 : decide ((E : Int) < (k : Int)) = false := decide_eq_false (by omega)
      clear hAll hE
      go_wp2
      go_loopw [10, 11, 12] (fun x y t w2 => ∃ m j : Nat, j ≤ N ∧ m ≤ j ∧ x = .int .i64 m ∧ y = .int .i64 ((EN Ls m : Nat) : Int) ∧ t = .int .i64 j ∧ EN Ls m ≤ k ∧ (∀ q, q ≤ j → m < q → k < EN Ls q) ∧ Kept (fun _ => False) wA w2) (fun _ _ t _ => N - (intOf t).toNat)
      case atStart => exact ⟨0, 0, by omega, by omega, rfl, by simp [EN, allL], rfl, by simp [EN, allL], fun q h1 h2 => absurd h1 (by omega), Kept.refl _ _⟩
      case round =>
        obtain ⟨m, j, hj2, hmj, rfl, rfl, rfl, hmK, hall, hk2⟩ := hrel
        obtain ⟨EM, hEM⟩ : ∃ EM, EM = EN Ls m := ⟨_, rfl⟩
        rw [← hEM] at hmK ⊢
        have HEM := Lib.hid hEM
        have HAL := Lib.hid hall
        have HK2 := Lib.hid hk2
        clear hEM hall hk2
        by_cases hd : j < N
        · have hd' : (j : Int) < (N : Int) := by omega
          have hj0 : (0 : Int) ≤ (j : Int) := by omega
          obtain ⟨g6, cap6, hv6, _, _⟩ := own_at HB1.out.ends (by omega)
          injection hv6 with f1 f2 f3
          subst f1; subst f3
          clear f2
          have hcell : wr.cell? ⟨g6, j, none⟩ = some (.int .i64 ((EN Ls (j + 1) : Nat) : Int)) := by
            have := HK2.out.cell (HB1.out.ends.cells (g := g6) rfl j _ (endsV_at Ls j N hd)) (fun x => x)
            have e : (⟨g6, 0, none⟩ : Addr).add j = ⟨g6, j, none⟩ := by unfold Addr.add; split <;> simp_all
            rwa [e] at this
          obtain ⟨V, hV⟩ : ∃ V, V = EN Ls (j + 1) := ⟨_, rfl⟩
          rw [← hV] at hcell
          have HV := Lib.hid hV
          clear hV
          by_cases hle : V ≤ k
          · have q3 : decide ((V : Int) ≤ (k : Int)) = true := decide_eq_true (by omega)
            go_wp2
            go_quiet (fail)
            go_wp2
            go_roundw
            case rel => exact ⟨j + 1, j + 1, hd, Nat.le_refl _, by go_num, by rw [← HV.out], by go_num, by rw [← HV.out]; exact hle, fun q h1 h2 => absurd h1 (by omega), HK2.out.drewN _⟩
            case measure => simp [intOf]; omega
          · have q3 : decide ((V : Int) ≤ (k : Int)) = false := decide_eq_false (by omega)
            go_wp2
            go_roundw
            case rel => exact ⟨m, j + 1, hd, by omega, rfl, by rw [← HEM.out], by go_num, by rw [← HEM.out]; exact hmK, fun q h1 h2 => by rcases Nat.lt_or_eq_of_le h1 with h | rfl; exact HAL.out q (by omega) h2; rw [← HV.out]; omega, HK2.out⟩
            case measure => simp [intOf]; omega
        · have hjN : N = j := by omega
          subst hjN
          obtain ⟨wB, rfl⟩ : ∃ x, x = wr := ⟨_, rfl⟩
          have KB := Lib.hid (HB1.out.kept.trans HK2.out)
          have OB := Lib.hid (HK2.out.owns HOA.out (fun _ _ x => x))
          have hm3 : m ≤ Ls.length := by rw [← HNL.out]; exact hmj
          obtain ⟨e0, hsc, hse⟩ := scan_cut Ls (fun l hl => by have := HLE.out l hl; omega) k m hm3 (by show EN Ls m ≤ _; rw [← HEM.out]; exact hmK) (by rw [← HEA.out]; omega) (fun q h1 h2 => HAL.out q (by rw [HNL.out]; exact h1) h2)
          rw [show (allL (Ls.take m)).length = EM from HEM.out.symm] at hsc hse
          have HSC := Lib.hid hsc
          have HSE := Lib.hid hse
          have hrow := row8_own (allL_lt Ls HB8.out) OB.out
          have htl : ((allL Ls).take k).length = k := by rw [List.length_take, ← HEA.out]; omega
          have S0 := scan_any a5 c5 ((allL Ls).take k) (by omega) (by omega) wB (by rw [htl]; have := Row8.head (ao := a5) (c := c5) (l := allL Ls) (by rw [← HEA.out]; exact hrow) (hi := k) (by rw [← HEA.out]; omega); exact this) (HN'.out.kept KB.out)
          rw [htl] at S0
          have HS0 := Lib.hid S0
          have s1 := fun w => run_cutH (P := Tryd.prog) Tryd.underlying22 hi hz1 a5 E c5 k (by omega) w
          have s2 := fun w => run_cutHAt (P := Tryd.prog) Tryd.underlying22 hi hz1 a5 E c5 k (by omega) w
          have s3 := fun w => run_cutH (P := Tryd.prog) Tryd.underlying35 hi2 hy1 ao N c m (by omega) w
          have s4 := fun w => run_cutHAt (P := Tryd.prog) Tryd.underlying35 hi2 hy1 ao N c m (by omega) w
          clear hsc hse hrow htl S0
          go_wp2_with (go_at_call 14; refine HS0.out.mono ?_; intro e w3 h1; obtain ⟨vl, vs, L', u, n', hr, rfl, hown, hrows, hk⟩ := h1; obtain ⟨rfl, rfl, rfl⟩ := HSC.out.fn hr; obtain ⟨al, cl, rfl⟩ := ownsRow_slice hown; have HO3 := Lib.hid hown; have HR3 := Lib.hid hrows; have HK3 := Lib.hid hk; clear hown hrows hk hr)
          go_loopw [16] (fun t w' => ∃ j : Nat, j ≤ E ∧ t = .int .i64 j ∧ (∃ xs, w'.ownsRow W.heap.size 5 1 (.slice a5 E c5) E xs) ∧ Kept (fun q => some q = (Value.slice a5 E c5).ownBlock) w3 w') (fun t _ => E - (intOf t).toNat)
          case atStart => exact ⟨0, by omega, rfl, ⟨_, HK3.out.owns OB.out (fun _ _ x => x)⟩, Kept.refl _ _⟩
          case round =>
            obtain ⟨i, hi5, rfl, ⟨xs, hxs⟩, hk5⟩ := hrel
            have HXS := Lib.hid hxs
            have HK5 := Lib.hid hk5
            clear hxs hk5
            by_cases hd5 : i < E
            · have hd5' : (i : Int) < (E : Int) := by omega
              have hi0 : (0 : Int) ≤ (i : Int) := by omega
              obtain ⟨g5, cap5, hv5, _, _⟩ := own_at HXS.out (by omega)
              injection hv5 with f1 f2 f3
              subst f1; subst f3
              clear f2
              obtain ⟨u5, hu5⟩ : ∃ u, xs[i]? = some u := ⟨_, List.getElem?_eq_getElem (by have := HXS.out.1; omega)⟩
              have hcell : wr.cell? ⟨g5, i, none⟩ = some u5 := by
                have := HXS.out.cells (g := g5) rfl i u5 hu5
                have e : (⟨g5, 0, none⟩ : Addr).add i = ⟨g5, i, none⟩ := by unfold Addr.add; split <;> simp_all
                rwa [e] at this
              have hfree := own_free HXS.out i
              clear hu5
              go_wp2
              go_roundw
              case rel => exact ⟨i + 1, hd5, by go_num, ⟨_, owns_set HXS.out i _⟩, HK5.out.setCell (p := ⟨g5, i, none⟩) (fun _ => rfl) _⟩
              case measure => simp [intOf]; omega
            · obtain ⟨wC, rfl⟩ : ∃ x, x = wr := ⟨_, rfl⟩
              have hlt5 : ∀ q, some q = (Value.slice a5 E c5).ownBlock → q < wB.heap.size ∧ W.heap.size ≤ q := fun q e => ownsRow_lt OB.out e.symm
              have KC : Kept (fun _ => False) W wC := (KB.out.trans HK3.out).step HK5.out (fun q hq e => by have := (hlt5 q e).2; omega)
              have OG : wC.ownsRow wB.heap.size 22 1 (.slice al vs.length cl) vs.length vs := HK5.out.owns HO3.out (fun q e x => by have := (hlt5 q x).1; have := (ownsRow_lt HO3.out e).2; omega)
              have RG := HR3.out.keptRow HK5.out (fun q cur hB _ x => by have := (hlt5 q x).1; omega)
              have RA := own_RowsAt (fun l hl => HB8.out l (List.mem_of_mem_take hl)) OG RG
              have RB := (HR'.out.kept KC).take (k := m) (by rw [← HNL.out]; exact hmj)
              have HSM := Lib.hid (same_any _ _ (Ls.take m) (by rw [List.length_take]; omega) wC RA RB)
              have HKC := Lib.hid KC
              have en : ((EM : Int) == (EM : Int)) = true := beq_iff_eq.2 rfl
              clear KC OG RG RA RB hlt5
              rcases HSE.out with ⟨rfl, hEK⟩ | ⟨rfl, hEK⟩
              · have q6 : ((EM : Int) == (k : Int)) = true := beq_iff_eq.2 (by omega)
                go_wp2_with (go_at_call 16; refine HSM.out.mono ?_; rintro e w' ⟨rfl, hk⟩; have HK9 := Lib.hid hk; clear hk)
                go_ret
                exact ⟨rfl, HKC.out.trans HK9.out⟩
              · have q6 : ((EM : Int) == (k : Int)) = false := beq_eq_false_iff_ne.2 (by omega)
                go_wp2_with (go_at_call 16; refine HSM.out.mono ?_; rintro e w' ⟨rfl, hk⟩; have HK9 := Lib.hid hk; clear hk)
                go_ret
                exact ⟨rfl, HKC.out.trans HK9.out⟩

set_option maxHeartbeats 4000000 in
set_option maxRecDepth 100000 in
theorem back_neg (ao : Option Addr) (c : Nat) (Ls : List (List Nat)) (k : Int) (W : World) (HR : RowsAt W (.slice ao Ls.length c) Ls) (HN : Nibs W) (hL : Ls.length ≤ 9223372036854775807) (hb : ∀ l ∈ Ls, l.length ≤ 9223372036854775807) (c60 : decide ((60 : Int) < (Ls.length : Int)) = false) (hcap : Ls.length ≤ c) (hb8 : ∀ l ∈ Ls, ∀ x ∈ l, x < 256) (hk : decide (k < 0) = true) :
    Calls Tryd.prog 6 #[.slice ao Ls.length c, .int .i64 k] W fun e w' => e = .returned (.bool true) ∧ Kept (fun _ => False) W w' := by
  have HA := Lib.hid (awake_any W HN)
  have HBU := Lib.hid (fun w1 (hk : Kept (fun _ => False) W w1) => bulk_any (.slice ao Ls.length c) Ls hL w1 (HR.kept hk) hb)
  obtain ⟨i0, hi, hz0, hz1, hz2⟩ := info_parts info_u8
  obtain ⟨i1, hi', hz0', hz1', hz2'⟩ := info_parts infoInt
  obtain ⟨i2, hi2, hy0, hy1, hy2⟩ := info_parts infoRow
  have HR' := Lib.hid HR
  have HN' := Lib.hid HN
  have HB8 := Lib.hid hb8
  have h60 : ¬ (60 : Int) < (Ls.length : Int) := of_decide_eq_false c60
  obtain ⟨N, hN⟩ : ∃ N, N = Ls.length := ⟨_, rfl⟩
  have HNL := Lib.hid hN
  rw [← hN] at HR' HBU c60 h60 hL hcap ⊢
  clear HR HN hb hb8 hN
  go_enter Tryd.func6, Tryd.ntmps6
  go_wp2_with (first
    | (go_at_call 8; refine HA.out.mono ?_; rintro e w1 ⟨rfl, hk1⟩; have H1 := Lib.hid hk1; clear hk1)
    | (go_at_call 17; refine (HBU.out _ H1.out).mono ?_; rintro e w' ⟨n, rfl, hb, rfl⟩; have HB3 := Lib.hid hb; clear hb; by_cases hn : (3000 : Int) < (n : Int)))
  · go_ret
    exact ⟨rfl, H1.out⟩
  have hN60 : N ≤ 60 := by omega
  have HLE : Hid (∀ l ∈ Ls, l.length ≤ 3000) := Lib.hid (HB3.out (by omega))
  have HRW := Lib.hid (HR'.out.kept H1.out)
  go_loopw [5, 6, 7] (fun x y t wr => ∃ j : Nat, j ≤ N ∧ t = .int .i64 j ∧ B1 W Ls j x y wr) (fun _ _ t _ => N - (intOf t).toNat)
  case atStart => exact ⟨0, by omega, rfl, World.ownsRow_nil _ _ _ _, World.ownsRow_nil _ _ _ _, H1.out⟩
  case round =>
    obtain ⟨j, hj, rfl, hb1⟩ := hrel
    have HB1 := Lib.hid hb1
    clear hb1
    by_cases hd : j < N
    · have hd' : (j : Int) < (N : Int) := by omega
      have hj0 : (0 : Int) ≤ (j : Int) := by omega
      have hjL : j < Ls.length := by rw [← HNL.out]; exact hd
      obtain ⟨aR, cR, hvR, hcR⟩ := HR'.out
      obtain ⟨a, ai, ci, hao, h1, h2⟩ := hcR j hjL
      injection hvR with e1 e2 e3
      subst e1; subst e3; subst hao
      clear e2
      have g1 := HB1.out.kept.cell h1 (fun x => x)
      obtain ⟨p, hp⟩ : ∃ p, p = Ls.getD j [] := ⟨_, rfl⟩
      have hpl : p.length ≤ 3000 := HLE.out p (by rw [hp, List.getD_eq_getElem?_getD, List.getElem?_eq_getElem hjL]; simp)
      rw [← hp] at g1 h2
      have HE0 := EN_le Ls HLE.out j (by omega)
      have HE1 := EN_succ Ls j hjL
      rw [← hp] at HE1
      obtain ⟨M, hM⟩ : ∃ M, M = p.length := ⟨_, rfl⟩
      have HMM := Lib.hid hM
      rw [← hM] at g1 hpl HE1
      obtain ⟨N9, hN9⟩ : ∃ N9, N9 = 9 + M := ⟨_, rfl⟩
      have HWr := Lib.hid (fun w h => wrap_at (.slice ai p.length ci) p (by omega) N9 (by omega) _ w h (h2.kept HB1.out.kept) (HN'.out.kept HB1.out.kept))
      have HPB := Lib.hid (frameL_lt p h2.lt)
      have hfl : (frameL p).length = N9 := by rw [frameL_len, hN9, hM]
      rw [← hM] at HWr
      have HFL := Lib.hid hfl
      have HP := Lib.hid hp
      obtain ⟨a5, c5, hx⟩ := ownsRow_slice HB1.out.all
      obtain ⟨a6, c6, hy⟩ := ownsRow_slice HB1.out.ends
      subst hx; subst hy
      obtain ⟨E0, hE0⟩ : ∃ E0, E0 = EN Ls j := ⟨_, rfl⟩
      have HEE := Lib.hid hE0
      have HBX := HB1
      have HA0 : Hid (wr.ownsRow W.heap.size 5 1 (.slice a5 E0 c5) E0 (b8 (allL (Ls.take j)))) := Lib.hid (by have := HB1.out.all; rw [← hE0] at this; exact this)
      have HMID : Hid (∀ w1 w2 vA2, Kept (fun _ => False) wr w1 → w2.ownsRow W.heap.size 5 1 vA2 (E0 + N9) (b8 (allL (Ls.take j)) ++ b8 (frameL p)) → w1.grownBy w2 (Value.slice a5 E0 c5).ownBlock →
          w2.ownsRow W.heap.size 5 1 vA2 (EN Ls (j + 1)) (b8 (allL (Ls.take (j + 1)))) ∧ w2.ownsRow W.heap.size 3 1 (.slice a6 j c6) j (endsV Ls j) ∧ Kept (fun _ => False) W w2) := Lib.hid fun w1 w2 vA2 hk1 ho hg => HB1.out.mid hk1 hjL (by rw [← hE0, ← hp, ← hM, ← hN9]) (by rw [← hp]; exact ho) (by rw [← hE0]; exact hg)
      obtain ⟨E1, hE1⟩ : ∃ E1, E1 = EN Ls (j + 1) := ⟨_, rfl⟩
      have HE1' := Lib.hid hE1
      have hE01 : E0 + N9 = E1 := by omega
      have hE1b : E1 ≤ 200000 := by omega
      rw [← hE0]
      rw [← hE1, hE01] at HMID
      have en : ((0 : Int) != 0) = false := rfl
      clear h1 h2 hcR hp hM hN9 hfl hE0 hE1 HE0 HE1 hpl HB1
      go_wp2_with (first
        | (go_at_call 10; refine (HWr.out _ (Kept.refl _ _)).mono ?_; intro e w2 h1; obtain ⟨g, cap, rfl, ho, hk⟩ := h1; have HO := Lib.hid ho; have HK := Lib.hid hk; clear ho hk)
        | (at_builtin; refine wpList_append_src _ rfl (.tmp 43) (.tmp 44) 22 22 rfl W.heap.size 5 i0 (.int .u8 0) 1 1 Tryd.underlying22 hi hz0 hz1 hz2 rfl (.slice a5 E0 c5) E0 (b8 (allL (Ls.take j))) rfl ?c0 (.slice (some ⟨g, 0, none⟩) N9 cap) N9 (b8 (frameL p)) rfl ?cs ?c1 ?c2 ?c3 ?_))
      case c0 => exact HK.out.owns HA0.out (fun _ _ x => x)
      case cs => have := (row8_own HPB.out HO.out).src'; rw [HFL.out] at this; exact this
      case c1 => unfold maxLen; omega
      case c2 => omega
      case c3 => have := HBX.out.kept.size; have := HK.out.size; omega
      intro v2 w3 hown hgr _ hat
      try rw [hE01] at hown
      obtain ⟨m1, m2, m3⟩ := HMID.out _ _ _ HK.out hown hgr
      obtain ⟨a2, c2, rfl⟩ := ownsRow_slice hown
      have M1 := Lib.hid m1
      have M2 := Lib.hid m2
      have M3 := Lib.hid m3
      try rw [hE01]
      clear m1 m2 m3 hown hgr hat HMID HA0 HO HK hE01
      go_wp2_with (at_builtin; refine wpList_append_src _ rfl (.tmp 46) (.tmp 49) 44 44 rfl W.heap.size 3 i1 (.int .i64 0) 1 8 Tryd.underlying44 hi' hz0' hz1' hz2' rfl (.slice a6 j c6) j (endsV Ls j) rfl ?c0 (.slice (some ⟨w3.heap.size, 0, none⟩) 1 1) 1 [.int .i64 (E1 : Int)] rfl ?cs ?c1 ?c2 ?c3 ?_)
      case c0 => exact ((Kept.refl (fun _ => False) w3).alloc _).owns M2.out (fun _ _ x => x)
      case cs => exact src_one _ Tryd.underlying44 _ rfl
      case c1 => unfold maxLen; omega
      case c2 => omega
      case c3 => have := M3.out.size; simp; omega
      intro vE2 w4 hown hgr _ hat
      have HB2 : B1 W Ls (j + 1) (.slice a2 E1 c2) vE2 w4 := B1.next (by rw [← HE1'.out]; have := M1.out; exact this) M2.out M3.out _ (by rw [← HE1'.out]; exact hown) hgr
      have HB2' := Lib.hid HB2
      clear HB2 hown hgr hat
      go_wp2
      go_roundw
      case rel => exact ⟨j + 1, hd, by go_num, HB2'.out⟩
      case measure => simp [intOf]; omega
    · have hjN : N = j := by omega
      subst hjN
      obtain ⟨wA, rfl⟩ : ∃ x, x = wr := ⟨_, rfl⟩
      obtain ⟨a5, c5, hx⟩ := ownsRow_slice HB1.out.all
      obtain ⟨a6, c6, hy⟩ := ownsRow_slice HB1.out.ends
      subst hx; subst hy
      have hAll : Ls.take N = Ls := by rw [HNL.out, List.take_length]
      have HE0 := EN_le Ls HLE.out N (by rw [← HNL.out]; exact Nat.le_refl _)
      have HOA : Hid (wA.ownsRow W.heap.size 5 1 (.slice a5 (EN Ls N) c5) (EN Ls N) (b8 (allL Ls))) := Lib.hid (by have := HB1.out.all; rw [hAll] at this; exact this)
      have HEA : Hid (EN Ls N = (allL Ls).length) := Lib.hid (by unfold EN; rw [hAll])
      have hkE : EN Ls N ≤ EN Ls N := Nat.le_refl _
      obtain ⟨E, hE⟩ : ∃ E, E = EN Ls N := ⟨_, rfl⟩
      rw [← hE] at HOA HEA hkE HE0 ⊢
      have HEE := Lib.hid hE
      have hcA := own_cap HOA.out
      skip
      clear hAll hE
      go_wp2
      go_loopw [10, 11, 12] (fun x y t w2 => ∃ m j : Nat, j ≤ N ∧ m ≤ j ∧ x = .int .i64 m ∧ y = .int .i64 ((EN Ls m : Nat) : Int) ∧ t = .int .i64 j ∧ EN Ls m ≤ E ∧ (∀ q, q ≤ j → m < q → E < EN Ls q) ∧ Kept (fun _ => False) wA w2) (fun _ _ t _ => N - (intOf t).toNat)
      case atStart => exact ⟨0, 0, by omega, by omega, rfl, by simp [EN, allL], rfl, by simp [EN, allL], fun q h1 h2 => absurd h1 (by omega), Kept.refl _ _⟩
      case round =>
        obtain ⟨m, j, hj2, hmj, rfl, rfl, rfl, hmK, hall, hk2⟩ := hrel
        obtain ⟨EM, hEM⟩ : ∃ EM, EM = EN Ls m := ⟨_, rfl⟩
        rw [← hEM] at hmK ⊢
        have HEM := Lib.hid hEM
        have HAL := Lib.hid hall
        have HK2 := Lib.hid hk2
        clear hEM hall hk2
        by_cases hd : j < N
        · have hd' : (j : Int) < (N : Int) := by omega
          have hj0 : (0 : Int) ≤ (j : Int) := by omega
          obtain ⟨g6, cap6, hv6, _, _⟩ := own_at HB1.out.ends (by omega)
          injection hv6 with f1 f2 f3
          subst f1; subst f3
          clear f2
          have hcell : wr.cell? ⟨g6, j, none⟩ = some (.int .i64 ((EN Ls (j + 1) : Nat) : Int)) := by
            have := HK2.out.cell (HB1.out.ends.cells (g := g6) rfl j _ (endsV_at Ls j N hd)) (fun x => x)
            have e : (⟨g6, 0, none⟩ : Addr).add j = ⟨g6, j, none⟩ := by unfold Addr.add; split <;> simp_all
            rwa [e] at this
          obtain ⟨V, hV⟩ : ∃ V, V = EN Ls (j + 1) := ⟨_, rfl⟩
          rw [← hV] at hcell
          have HV := Lib.hid hV
          clear hV
          by_cases hle : V ≤ E
          · have q3 : decide ((V : Int) ≤ (E : Int)) = true := decide_eq_true (by omega)
            go_wp2
            go_quiet (fail)
            go_wp2
            go_roundw
            case rel => exact ⟨j + 1, j + 1, hd, Nat.le_refl _, by go_num, by rw [← HV.out], by go_num, by rw [← HV.out]; exact hle, fun q h1 h2 => absurd h1 (by omega), HK2.out.drewN _⟩
            case measure => simp [intOf]; omega
          · have q3 : decide ((V : Int) ≤ (E : Int)) = false := decide_eq_false (by omega)
            go_wp2
            go_roundw
            case rel => exact ⟨m, j + 1, hd, by omega, rfl, by rw [← HEM.out], by go_num, by rw [← HEM.out]; exact hmK, fun q h1 h2 => by rcases Nat.lt_or_eq_of_le h1 with h | rfl; exact HAL.out q (by omega) h2; rw [← HV.out]; omega, HK2.out⟩
            case measure => simp [intOf]; omega
        · have hjN : N = j := by omega
          subst hjN
          obtain ⟨wB, rfl⟩ : ∃ x, x = wr := ⟨_, rfl⟩
          have KB := Lib.hid (HB1.out.kept.trans HK2.out)
          have OB := Lib.hid (HK2.out.owns HOA.out (fun _ _ x => x))
          have hm3 : m ≤ Ls.length := by rw [← HNL.out]; exact hmj
          obtain ⟨e0, hsc, hse⟩ := scan_cut Ls (fun l hl => by have := HLE.out l hl; omega) E m hm3 (by show EN Ls m ≤ _; rw [← HEM.out]; exact hmK) (by rw [← HEA.out]; omega) (fun q h1 h2 => HAL.out q (by rw [HNL.out]; exact h1) h2)
          rw [show (allL (Ls.take m)).length = EM from HEM.out.symm] at hsc hse
          have HSC := Lib.hid hsc
          have HSE := Lib.hid hse
          have hrow := row8_own (allL_lt Ls HB8.out) OB.out
          have htl : ((allL Ls).take E).length = E := by rw [List.length_take, ← HEA.out]; omega
          have S0 := scan_any a5 c5 ((allL Ls).take E) (by omega) (by omega) wB (by rw [htl]; have := Row8.head (ao := a5) (c := c5) (l := allL Ls) (by rw [← HEA.out]; exact hrow) (hi := E) (by rw [← HEA.out]; omega); exact this) (HN'.out.kept KB.out)
          rw [htl] at S0
          have HS0 := Lib.hid S0
          have s1 := fun w => run_cutH (P := Tryd.prog) Tryd.underlying22 hi hz1 a5 E c5 E (by omega) w
          have s2 := fun w => run_cutHAt (P := Tryd.prog) Tryd.underlying22 hi hz1 a5 E c5 E (by omega) w
          have s3 := fun w => run_cutH (P := Tryd.prog) Tryd.underlying35 hi2 hy1 ao N c m (by omega) w
          have s4 := fun w => run_cutHAt (P := Tryd.prog) Tryd.underlying35 hi2 hy1 ao N c m (by omega) w
          clear hsc hse hrow htl S0
          go_wp2_with (go_at_call 14; refine HS0.out.mono ?_; intro e w3 h1; obtain ⟨vl, vs, L', u, n', hr, rfl, hown, hrows, hk⟩ := h1; obtain ⟨rfl, rfl, rfl⟩ := HSC.out.fn hr; obtain ⟨al, cl, rfl⟩ := ownsRow_slice hown; have HO3 := Lib.hid hown; have HR3 := Lib.hid hrows; have HK3 := Lib.hid hk; clear hown hrows hk hr)
          go_loopw [16] (fun t w' => ∃ j : Nat, j ≤ E ∧ t = .int .i64 j ∧ (∃ xs, w'.ownsRow W.heap.size 5 1 (.slice a5 E c5) E xs) ∧ Kept (fun q => some q = (Value.slice a5 E c5).ownBlock) w3 w') (fun t _ => E - (intOf t).toNat)
          case atStart => exact ⟨0, by omega, rfl, ⟨_, HK3.out.owns OB.out (fun _ _ x => x)⟩, Kept.refl _ _⟩
          case round =>
            obtain ⟨i, hi5, rfl, ⟨xs, hxs⟩, hk5⟩ := hrel
            have HXS := Lib.hid hxs
            have HK5 := Lib.hid hk5
            clear hxs hk5
            by_cases hd5 : i < E
            · have hd5' : (i : Int) < (E : Int) := by omega
              have hi0 : (0 : Int) ≤ (i : Int) := by omega
              obtain ⟨g5, cap5, hv5, _, _⟩ := own_at HXS.out (by omega)
              injection hv5 with f1 f2 f3
              subst f1; subst f3
              clear f2
              obtain ⟨u5, hu5⟩ : ∃ u, xs[i]? = some u := ⟨_, List.getElem?_eq_getElem (by have := HXS.out.1; omega)⟩
              have hcell : wr.cell? ⟨g5, i, none⟩ = some u5 := by
                have := HXS.out.cells (g := g5) rfl i u5 hu5
                have e : (⟨g5, 0, none⟩ : Addr).add i = ⟨g5, i, none⟩ := by unfold Addr.add; split <;> simp_all
                rwa [e] at this
              have hfree := own_free HXS.out i
              clear hu5
              go_wp2
              go_roundw
              case rel => exact ⟨i + 1, hd5, by go_num, ⟨_, owns_set HXS.out i _⟩, HK5.out.setCell (p := ⟨g5, i, none⟩) (fun _ => rfl) _⟩
              case measure => simp [intOf]; omega
            · obtain ⟨wC, rfl⟩ : ∃ x, x = wr := ⟨_, rfl⟩
              have hlt5 : ∀ q, some q = (Value.slice a5 E c5).ownBlock → q < wB.heap.size ∧ W.heap.size ≤ q := fun q e => ownsRow_lt OB.out e.symm
              have KC : Kept (fun _ => False) W wC := (KB.out.trans HK3.out).step HK5.out (fun q hq e => by have := (hlt5 q e).2; omega)
              have OG : wC.ownsRow wB.heap.size 22 1 (.slice al vs.length cl) vs.length vs := HK5.out.owns HO3.out (fun q e x => by have := (hlt5 q x).1; have := (ownsRow_lt HO3.out e).2; omega)
              have RG := HR3.out.keptRow HK5.out (fun q cur hB _ x => by have := (hlt5 q x).1; omega)
              have RA := own_RowsAt (fun l hl => HB8.out l (List.mem_of_mem_take hl)) OG RG
              have RB := (HR'.out.kept KC).take (k := m) (by rw [← HNL.out]; exact hmj)
              have HSM := Lib.hid (same_any _ _ (Ls.take m) (by rw [List.length_take]; omega) wC RA RB)
              have HKC := Lib.hid KC
              have en : ((EM : Int) == (EM : Int)) = true := beq_iff_eq.2 rfl
              clear KC OG RG RA RB hlt5
              rcases HSE.out with ⟨rfl, hEK⟩ | ⟨rfl, hEK⟩
              · have q6 : ((EM : Int) == (E : Int)) = true := beq_iff_eq.2 (by omega)
                go_wp2_with (go_at_call 16; refine HSM.out.mono ?_; rintro e w' ⟨rfl, hk⟩; have HK9 := Lib.hid hk; clear hk)
                go_ret
                exact ⟨rfl, HKC.out.trans HK9.out⟩
              · have q6 : ((EM : Int) == (E : Int)) = false := beq_eq_false_iff_ne.2 (by omega)
                go_wp2_with (go_at_call 16; refine HSM.out.mono ?_; rintro e w' ⟨rfl, hk⟩; have HK9 := Lib.hid hk; clear hk)
                go_ret
                exact ⟨rfl, HKC.out.trans HK9.out⟩

set_option maxHeartbeats 4000000 in
set_option maxRecDepth 100000 in
theorem back_far (ao : Option Addr) (c : Nat) (Ls : List (List Nat)) (k : Int) (W : World) (HR : RowsAt W (.slice ao Ls.length c) Ls) (HN : Nibs W) (hL : Ls.length ≤ 9223372036854775807) (hb : ∀ l ∈ Ls, l.length ≤ 9223372036854775807) (c60 : decide ((60 : Int) < (Ls.length : Int)) = false) (hcap : Ls.length ≤ c) (hb8 : ∀ l ∈ Ls, ∀ x ∈ l, x < 256) (hk0 : decide (k < 0) = false) (hk : decide (((EN Ls Ls.length : Nat) : Int) < k) = true) :
    Calls Tryd.prog 6 #[.slice ao Ls.length c, .int .i64 k] W fun e w' => e = .returned (.bool true) ∧ Kept (fun _ => False) W w' := by
  have HA := Lib.hid (awake_any W HN)
  have HBU := Lib.hid (fun w1 (hk : Kept (fun _ => False) W w1) => bulk_any (.slice ao Ls.length c) Ls hL w1 (HR.kept hk) hb)
  obtain ⟨i0, hi, hz0, hz1, hz2⟩ := info_parts info_u8
  obtain ⟨i1, hi', hz0', hz1', hz2'⟩ := info_parts infoInt
  obtain ⟨i2, hi2, hy0, hy1, hy2⟩ := info_parts infoRow
  have HR' := Lib.hid HR
  have HN' := Lib.hid HN
  have HB8 := Lib.hid hb8
  have h60 : ¬ (60 : Int) < (Ls.length : Int) := of_decide_eq_false c60
  obtain ⟨N, hN⟩ : ∃ N, N = Ls.length := ⟨_, rfl⟩
  have HNL := Lib.hid hN
  rw [← hN] at HR' HBU c60 h60 hL hcap ⊢
  clear HR HN hb hb8 hN
  go_enter Tryd.func6, Tryd.ntmps6
  go_wp2_with (first
    | (go_at_call 8; refine HA.out.mono ?_; rintro e w1 ⟨rfl, hk1⟩; have H1 := Lib.hid hk1; clear hk1)
    | (go_at_call 17; refine (HBU.out _ H1.out).mono ?_; rintro e w' ⟨n, rfl, hb, rfl⟩; have HB3 := Lib.hid hb; clear hb; by_cases hn : (3000 : Int) < (n : Int)))
  · go_ret
    exact ⟨rfl, H1.out⟩
  have hN60 : N ≤ 60 := by omega
  have HLE : Hid (∀ l ∈ Ls, l.length ≤ 3000) := Lib.hid (HB3.out (by omega))
  have HRW := Lib.hid (HR'.out.kept H1.out)
  go_loopw [5, 6, 7] (fun x y t wr => ∃ j : Nat, j ≤ N ∧ t = .int .i64 j ∧ B1 W Ls j x y wr) (fun _ _ t _ => N - (intOf t).toNat)
  case atStart => exact ⟨0, by omega, rfl, World.ownsRow_nil _ _ _ _, World.ownsRow_nil _ _ _ _, H1.out⟩
  case round =>
    obtain ⟨j, hj, rfl, hb1⟩ := hrel
    have HB1 := Lib.hid hb1
    clear hb1
    by_cases hd : j < N
    · have hd' : (j : Int) < (N : Int) := by omega
      have hj0 : (0 : Int) ≤ (j : Int) := by omega
      have hjL : j < Ls.length := by rw [← HNL.out]; exact hd
      obtain ⟨aR, cR, hvR, hcR⟩ := HR'.out
      obtain ⟨a, ai, ci, hao, h1, h2⟩ := hcR j hjL
      injection hvR with e1 e2 e3
      subst e1; subst e3; subst hao
      clear e2
      have g1 := HB1.out.kept.cell h1 (fun x => x)
      obtain ⟨p, hp⟩ : ∃ p, p = Ls.getD j [] := ⟨_, rfl⟩
      have hpl : p.length ≤ 3000 := HLE.out p (by rw [hp, List.getD_eq_getElem?_getD, List.getElem?_eq_getElem hjL]; simp)
      rw [← hp] at g1 h2
      have HE0 := EN_le Ls HLE.out j (by omega)
      have HE1 := EN_succ Ls j hjL
      rw [← hp] at HE1
      obtain ⟨M, hM⟩ : ∃ M, M = p.length := ⟨_, rfl⟩
      have HMM := Lib.hid hM
      rw [← hM] at g1 hpl HE1
      obtain ⟨N9, hN9⟩ : ∃ N9, N9 = 9 + M := ⟨_, rfl⟩
      have HWr := Lib.hid (fun w h => wrap_at (.slice ai p.length ci) p (by omega) N9 (by omega) _ w h (h2.kept HB1.out.kept) (HN'.out.kept HB1.out.kept))
      have HPB := Lib.hid (frameL_lt p h2.lt)
      have hfl : (frameL p).length = N9 := by rw [frameL_len, hN9, hM]
      rw [← hM] at HWr
      have HFL := Lib.hid hfl
      have HP := Lib.hid hp
      obtain ⟨a5, c5, hx⟩ := ownsRow_slice HB1.out.all
      obtain ⟨a6, c6, hy⟩ := ownsRow_slice HB1.out.ends
      subst hx; subst hy
      obtain ⟨E0, hE0⟩ : ∃ E0, E0 = EN Ls j := ⟨_, rfl⟩
      have HEE := Lib.hid hE0
      have HBX := HB1
      have HA0 : Hid (wr.ownsRow W.heap.size 5 1 (.slice a5 E0 c5) E0 (b8 (allL (Ls.take j)))) := Lib.hid (by have := HB1.out.all; rw [← hE0] at this; exact this)
      have HMID : Hid (∀ w1 w2 vA2, Kept (fun _ => False) wr w1 → w2.ownsRow W.heap.size 5 1 vA2 (E0 + N9) (b8 (allL (Ls.take j)) ++ b8 (frameL p)) → w1.grownBy w2 (Value.slice a5 E0 c5).ownBlock →
          w2.ownsRow W.heap.size 5 1 vA2 (EN Ls (j + 1)) (b8 (allL (Ls.take (j + 1)))) ∧ w2.ownsRow W.heap.size 3 1 (.slice a6 j c6) j (endsV Ls j) ∧ Kept (fun _ => False) W w2) := Lib.hid fun w1 w2 vA2 hk1 ho hg => HB1.out.mid hk1 hjL (by rw [← hE0, ← hp, ← hM, ← hN9]) (by rw [← hp]; exact ho) (by rw [← hE0]; exact hg)
      obtain ⟨E1, hE1⟩ : ∃ E1, E1 = EN Ls (j + 1) := ⟨_, rfl⟩
      have HE1' := Lib.hid hE1
      have hE01 : E0 + N9 = E1 := by omega
      have hE1b : E1 ≤ 200000 := by omega
      rw [← hE0]
      rw [← hE1, hE01] at HMID
      have en : ((0 : Int) != 0) = false := rfl
      clear h1 h2 hcR hp hM hN9 hfl hE0 hE1 HE0 HE1 hpl HB1
      go_wp2_with (first
        | (go_at_call 10; refine (HWr.out _ (Kept.refl _ _)).mono ?_; intro e w2 h1; obtain ⟨g, cap, rfl, ho, hk⟩ := h1; have HO := Lib.hid ho; have HK := Lib.hid hk; clear ho hk)
        | (at_builtin; refine wpList_append_src _ rfl (.tmp 43) (.tmp 44) 22 22 rfl W.heap.size 5 i0 (.int .u8 0) 1 1 Tryd.underlying22 hi hz0 hz1 hz2 rfl (.slice a5 E0 c5) E0 (b8 (allL (Ls.take j))) rfl ?c0 (.slice (some ⟨g, 0, none⟩) N9 cap) N9 (b8 (frameL p)) rfl ?cs ?c1 ?c2 ?c3 ?_))
      case c0 => exact HK.out.owns HA0.out (fun _ _ x => x)
      case cs => have := (row8_own HPB.out HO.out).src'; rw [HFL.out] at this; exact this
      case c1 => unfold maxLen; omega
      case c2 => omega
      case c3 => have := HBX.out.kept.size; have := HK.out.size; omega
      intro v2 w3 hown hgr _ hat
      try rw [hE01] at hown
      obtain ⟨m1, m2, m3⟩ := HMID.out _ _ _ HK.out hown hgr
      obtain ⟨a2, c2, rfl⟩ := ownsRow_slice hown
      have M1 := Lib.hid m1
      have M2 := Lib.hid m2
      have M3 := Lib.hid m3
      try rw [hE01]
      clear m1 m2 m3 hown hgr hat HMID HA0 HO HK hE01
      go_wp2_with (at_builtin; refine wpList_append_src _ rfl (.tmp 46) (.tmp 49) 44 44 rfl W.heap.size 3 i1 (.int .i64 0) 1 8 Tryd.underlying44 hi' hz0' hz1' hz2' rfl (.slice a6 j c6) j (endsV Ls j) rfl ?c0 (.slice (some ⟨w3.heap.size, 0, none⟩) 1 1) 1 [.int .i64 (E1 : Int)] rfl ?cs ?c1 ?c2 ?c3 ?_)
      case c0 => exact ((Kept.refl (fun _ => False) w3).alloc _).owns M2.out (fun _ _ x => x)
      case cs => exact src_one _ Tryd.underlying44 _ rfl
      case c1 => unfold maxLen; omega
      case c2 => omega
      case c3 => have := M3.out.size; simp; omega
      intro vE2 w4 hown hgr _ hat
      have HB2 : B1 W Ls (j + 1) (.slice a2 E1 c2) vE2 w4 := B1.next (by rw [← HE1'.out]; have := M1.out; exact this) M2.out M3.out _ (by rw [← HE1'.out]; exact hown) hgr
      have HB2' := Lib.hid HB2
      clear HB2 hown hgr hat
      go_wp2
      go_roundw
      case rel => exact ⟨j + 1, hd, by go_num, HB2'.out⟩
      case measure => simp [intOf]; omega
    · have hjN : N = j := by omega
      subst hjN
      obtain ⟨wA, rfl⟩ : ∃ x, x = wr := ⟨_, rfl⟩
      obtain ⟨a5, c5, hx⟩ := ownsRow_slice HB1.out.all
      obtain ⟨a6, c6, hy⟩ := ownsRow_slice HB1.out.ends
      subst hx; subst hy
      have hAll : Ls.take N = Ls := by rw [HNL.out, List.take_length]
      have HE0 := EN_le Ls HLE.out N (by rw [← HNL.out]; exact Nat.le_refl _)
      have HOA : Hid (wA.ownsRow W.heap.size 5 1 (.slice a5 (EN Ls N) c5) (EN Ls N) (b8 (allL Ls))) := Lib.hid (by have := HB1.out.all; rw [hAll] at this; exact this)
      have HEA : Hid (EN Ls N = (allL Ls).length) := Lib.hid (by unfold EN; rw [hAll])
      have hkE : decide (((EN Ls N : Nat) : Int) < k) = true := by rw [HNL.out]; exact hk
      obtain ⟨E, hE⟩ : ∃ E, E = EN Ls N := ⟨_, rfl⟩
      rw [← hE] at HOA HEA hkE HE0 ⊢
      have HEE := Lib.hid hE
      have hcA := own_cap HOA.out
      skip
      clear hAll hE
      go_wp2
      go_loopw [10, 11, 12] (fun x y t w2 => ∃ m j : Nat, j ≤ N ∧ m ≤ j ∧ x = .int .i64 m ∧ y = .int .i64 ((EN Ls m : Nat) : Int) ∧ t = .int .i64 j ∧ EN Ls m ≤ E ∧ (∀ q, q ≤ j → m < q → E < EN Ls q) ∧ Kept (fun _ => False) wA w2) (fun _ _ t _ => N - (intOf t).toNat)
      case atStart => exact ⟨0, 0, by omega, by omega, rfl, by simp [EN, allL], rfl, by simp [EN, allL], fun q h1 h2 => absurd h1 (by omega), Kept.refl _ _⟩
      case round =>
        obtain ⟨m, j, hj2, hmj, rfl, rfl, rfl, hmK, hall, hk2⟩ := hrel
        obtain ⟨EM, hEM⟩ : ∃ EM, EM = EN Ls m := ⟨_, rfl⟩
        rw [← hEM] at hmK ⊢
        have HEM := Lib.hid hEM
        have HAL := Lib.hid hall
        have HK2 := Lib.hid hk2
        clear hEM hall hk2
        by_cases hd : j < N
        · have hd' : (j : Int) < (N : Int) := by omega
          have hj0 : (0 : Int) ≤ (j : Int) := by omega
          obtain ⟨g6, cap6, hv6, _, _⟩ := own_at HB1.out.ends (by omega)
          injection hv6 with f1 f2 f3
          subst f1; subst f3
          clear f2
          have hcell : wr.cell? ⟨g6, j, none⟩ = some (.int .i64 ((EN Ls (j + 1) : Nat) : Int)) := by
            have := HK2.out.cell (HB1.out.ends.cells (g := g6) rfl j _ (endsV_at Ls j N hd)) (fun x => x)
            have e : (⟨g6, 0, none⟩ : Addr).add j = ⟨g6, j, none⟩ := by unfold Addr.add; split <;> simp_all
            rwa [e] at this
          obtain ⟨V, hV⟩ : ∃ V, V = EN Ls (j + 1) := ⟨_, rfl⟩
          rw [← hV] at hcell
          have HV := Lib.hid hV
          clear hV
          by_cases hle : V ≤ E
          · have q3 : decide ((V : Int) ≤ (E : Int)) = true := decide_eq_true (by omega)
            go_wp2
            go_quiet (fail)
            go_wp2
            go_roundw
            case rel => exact ⟨j + 1, j + 1, hd, Nat.le_refl _, by go_num, by rw [← HV.out], by go_num, by rw [← HV.out]; exact hle, fun q h1 h2 => absurd h1 (by omega), HK2.out.drewN _⟩
            case measure => simp [intOf]; omega
          · have q3 : decide ((V : Int) ≤ (E : Int)) = false := decide_eq_false (by omega)
            go_wp2
            go_roundw
            case rel => exact ⟨m, j + 1, hd, by omega, rfl, by rw [← HEM.out], by go_num, by rw [← HEM.out]; exact hmK, fun q h1 h2 => by rcases Nat.lt_or_eq_of_le h1 with h | rfl; exact HAL.out q (by omega) h2; rw [← HV.out]; omega, HK2.out⟩
            case measure => simp [intOf]; omega
        · have hjN : N = j := by omega
          subst hjN
          obtain ⟨wB, rfl⟩ : ∃ x, x = wr := ⟨_, rfl⟩
          have KB := Lib.hid (HB1.out.kept.trans HK2.out)
          have OB := Lib.hid (HK2.out.owns HOA.out (fun _ _ x => x))
          have hm3 : m ≤ Ls.length := by rw [← HNL.out]; exact hmj
          obtain ⟨e0, hsc, hse⟩ := scan_cut Ls (fun l hl => by have := HLE.out l hl; omega) E m hm3 (by show EN Ls m ≤ _; rw [← HEM.out]; exact hmK) (by rw [← HEA.out]; omega) (fun q h1 h2 => HAL.out q (by rw [HNL.out]; exact h1) h2)
          rw [show (allL (Ls.take m)).length = EM from HEM.out.symm] at hsc hse
          have HSC := Lib.hid hsc
          have HSE := Lib.hid hse
          have hrow := row8_own (allL_lt Ls HB8.out) OB.out
          have htl : ((allL Ls).take E).length = E := by rw [List.length_take, ← HEA.out]; omega
          have S0 := scan_any a5 c5 ((allL Ls).take E) (by omega) (by omega) wB (by rw [htl]; have := Row8.head (ao := a5) (c := c5) (l := allL Ls) (by rw [← HEA.out]; exact hrow) (hi := E) (by rw [← HEA.out]; omega); exact this) (HN'.out.kept KB.out)
          rw [htl] at S0
          have HS0 := Lib.hid S0
          have s1 := fun w => run_cutH (P := Tryd.prog) Tryd.underlying22 hi hz1 a5 E c5 E (by omega) w
          have s2 := fun w => run_cutHAt (P := Tryd.prog) Tryd.underlying22 hi hz1 a5 E c5 E (by omega) w
          have s3 := fun w => run_cutH (P := Tryd.prog) Tryd.underlying35 hi2 hy1 ao N c m (by omega) w
          have s4 := fun w => run_cutHAt (P := Tryd.prog) Tryd.underlying35 hi2 hy1 ao N c m (by omega) w
          clear hsc hse hrow htl S0
          go_wp2_with (go_at_call 14; refine HS0.out.mono ?_; intro e w3 h1; obtain ⟨vl, vs, L', u, n', hr, rfl, hown, hrows, hk⟩ := h1; obtain ⟨rfl, rfl, rfl⟩ := HSC.out.fn hr; obtain ⟨al, cl, rfl⟩ := ownsRow_slice hown; have HO3 := Lib.hid hown; have HR3 := Lib.hid hrows; have HK3 := Lib.hid hk; clear hown hrows hk hr)
          go_loopw [16] (fun t w' => ∃ j : Nat, j ≤ E ∧ t = .int .i64 j ∧ (∃ xs, w'.ownsRow W.heap.size 5 1 (.slice a5 E c5) E xs) ∧ Kept (fun q => some q = (Value.slice a5 E c5).ownBlock) w3 w') (fun t _ => E - (intOf t).toNat)
          case atStart => exact ⟨0, by omega, rfl, ⟨_, HK3.out.owns OB.out (fun _ _ x => x)⟩, Kept.refl _ _⟩
          case round =>
            obtain ⟨i, hi5, rfl, ⟨xs, hxs⟩, hk5⟩ := hrel
            have HXS := Lib.hid hxs
            have HK5 := Lib.hid hk5
            clear hxs hk5
            by_cases hd5 : i < E
            · have hd5' : (i : Int) < (E : Int) := by omega
              have hi0 : (0 : Int) ≤ (i : Int) := by omega
              obtain ⟨g5, cap5, hv5, _, _⟩ := own_at HXS.out (by omega)
              injection hv5 with f1 f2 f3
              subst f1; subst f3
              clear f2
              obtain ⟨u5, hu5⟩ : ∃ u, xs[i]? = some u := ⟨_, List.getElem?_eq_getElem (by have := HXS.out.1; omega)⟩
              have hcell : wr.cell? ⟨g5, i, none⟩ = some u5 := by
                have := HXS.out.cells (g := g5) rfl i u5 hu5
                have e : (⟨g5, 0, none⟩ : Addr).add i = ⟨g5, i, none⟩ := by unfold Addr.add; split <;> simp_all
                rwa [e] at this
              have hfree := own_free HXS.out i
              clear hu5
              go_wp2
              go_roundw
              case rel => exact ⟨i + 1, hd5, by go_num, ⟨_, owns_set HXS.out i _⟩, HK5.out.setCell (p := ⟨g5, i, none⟩) (fun _ => rfl) _⟩
              case measure => simp [intOf]; omega
            · obtain ⟨wC, rfl⟩ : ∃ x, x = wr := ⟨_, rfl⟩
              have hlt5 : ∀ q, some q = (Value.slice a5 E c5).ownBlock → q < wB.heap.size ∧ W.heap.size ≤ q := fun q e => ownsRow_lt OB.out e.symm
              have KC : Kept (fun _ => False) W wC := (KB.out.trans HK3.out).step HK5.out (fun q hq e => by have := (hlt5 q e).2; omega)
              have OG : wC.ownsRow wB.heap.size 22 1 (.slice al vs.length cl) vs.length vs := HK5.out.owns HO3.out (fun q e x => by have := (hlt5 q x).1; have := (ownsRow_lt HO3.out e).2; omega)
              have RG := HR3.out.keptRow HK5.out (fun q cur hB _ x => by have := (hlt5 q x).1; omega)
              have RA := own_RowsAt (fun l hl => HB8.out l (List.mem_of_mem_take hl)) OG RG
              have RB := (HR'.out.kept KC).take (k := m) (by rw [← HNL.out]; exact hmj)
              have HSM := Lib.hid (same_any _ _ (Ls.take m) (by rw [List.length_take]; omega) wC RA RB)
              have HKC := Lib.hid KC
              have en : ((EM : Int) == (EM : Int)) = true := beq_iff_eq.2 rfl
              clear KC OG RG RA RB hlt5
              rcases HSE.out with ⟨rfl, hEK⟩ | ⟨rfl, hEK⟩
              · have q6 : ((EM : Int) == (E : Int)) = true := beq_iff_eq.2 (by omega)
                go_wp2_with (go_at_call 16; refine HSM.out.mono ?_; rintro e w' ⟨rfl, hk⟩; have HK9 := Lib.hid hk; clear hk)
                go_ret
                exact ⟨rfl, HKC.out.trans HK9.out⟩
              · have q6 : ((EM : Int) == (E : Int)) = false := beq_eq_false_iff_ne.2 (by omega)
                go_wp2_with (go_at_call 16; refine HSM.out.mono ?_; rintro e w' ⟨rfl, hk⟩; have HK9 := Lib.hid hk; clear hk)
                go_ret
                exact ⟨rfl, HKC.out.trans HK9.out⟩
end Go.Proofs.YtmmaickpkpkajaaDoor
