/- package limnographref30: Decode. -/
import Derived.Test.YtdgpeganmgcjiaaY16
import Derived.Test.YtdgpeganmgcjiaaY4
import Derived.Test.YtdgpeganmgcjiaaG3
namespace Go.Proofs.Ytdgpeganmgcjiaa
open Go.RowKit
attribute [local go_sem ↓] Go.wp_at_zero Go.wp_at_succ

theorem box3 {w : World} {g : Nat} {a b c : Value} {T : TypeId} (h : w.heap[g]? = some (.cells #[a, b, c] T (0, 0))) : (w.cell? ⟨g, 0, none⟩ = some a ∧ w.cell? ⟨g, 1, none⟩ = some b ∧ w.cell? ⟨g, 2, none⟩ = some c) ∧ w.frozen? ⟨g, 0, none⟩ = false ∧ w.frozen? ⟨g, 1, none⟩ = false ∧ w.frozen? ⟨g, 2, none⟩ = false := by
  refine ⟨⟨?_, ?_, ?_⟩, ?_, ?_, ?_⟩
  · rw [cell_of_row _ _ 0 _ _ _ h]; rfl
  · rw [cell_of_row _ _ 1 _ _ _ h]; rfl
  · rw [cell_of_row _ _ 2 _ _ _ h]; rfl
  all_goals simp [World.frozen?, h]
theorem four_set2 {w : World} {g : Nat} {a b c d x : Value} {T : TypeId} (h : w.heap[g]? = some (.cells #[a, b, c, d] T (0, 0))) : (w.setCell ⟨g, 2, none⟩ x).heap[g]? = some (.cells #[a, b, x, d] T (0, 0)) := by
  have h1 := heap_setCell_same _ _ 2 _ _ x h
  simpa using h1
theorem msg_info : (Try.prog.info? 33).map (·.size) = some 3 := by kernel_rfl
/-- What the document's Decode answers. -/
def RDecGot (R : List FR) (T E : Nat) (w : World) (e : Ending) (w' : World) : Prop :=
  ∃ M a c', recsR M = R ∧ e = .returned (.agg #[.slice a M.length c', .int .i64 (T : Int), .int .i64 (E : Int)]) ∧ FldsAt w' a M ∧ Kept (fun _ => False) w w'
theorem RDecGot.bad {R : List FR} {T E t G : Nat} {w w' : World} (h : (([] : List FR), t, G) = (R, T, E)) (hk : Kept (fun _ => False) w w') : RDecGot R T E w (.returned (.agg #[.slice none 0 0, .int .i64 (t : Int), .int .i64 (G : Int)])) w' := by
  injection h with h1 h2
  injection h2 with h2 h3
  subst h1 h2 h3
  exact ⟨[], none, 0, rfl, rfl, ⟨fun h => absurd h (by simp), by simp⟩, hk⟩
theorem decA_bad {k t G : Nat} {acc : List FR} {l : List Nat} {F : FR} {K : Nat} {X : List FR × Nat × Nat} (h : decA (k + 1) acc t l = X) (hl : 0 < l.length) (hf : fieldW l = (F, K, G)) (hG : G ≠ 0) : (([] : List FR), t, G) = X := by
  unfold decA at h
  rw [if_neg (by omega), hf, if_pos hG] at h
  exact h
theorem decA_good {k t : Nat} {acc : List FR} {l : List Nat} {F : FR} {K : Nat} {X : List FR × Nat × Nat} (h : decA (k + 1) acc t l = X) (hl : 0 < l.length) (hf : fieldW l = (F, K, 0)) : decA k (acc ++ [F]) (t + K) (l.drop K) = X := by
  unfold decA at h
  rw [if_neg (by omega), hf, if_neg (by simp)] at h
  exact h
theorem num8_drop (P : List Nat) (i : Nat) (h : i < P.length) : num8 (P.drop i) = P.getD i 0 + 256 * num8 (P.drop (i + 1)) := by
  rw [List.drop_eq_getElem_cons h, List.getD_eq_getElem?_getD, List.getElem?_eq_getElem h]; rfl

/-- In the box of a message there is no byte. -/
theorem box_no_byte {w : World} {g o : Nat} {x : Int} (h : w.heap[g]? = some (.cells #[.slice none 0 0, .int .i64 0, .int .i64 0] 33 (0, 0))) (hc : w.cell? ⟨g, o, none⟩ = some (.int .u8 x)) : False := by
  rw [cell_of_row _ _ o _ _ _ h] at hc
  match o, hc with
  | 0, hc => simp at hc
  | 1, hc => simp at hc
  | 2, hc => simp at hc
  | o + 3, hc => simp at hc

set_option maxHeartbeats 16000000 in
set_option maxRecDepth 100000 in
theorem rDecode_any (ao : Option Addr) (c : Nat) (l : List Nat) (w : World) (hb : By w ao c l) (hl : l.length ≤ 100000) (R : List FR) (T E : Nat) (hR : decM l = (R, T, E)) :
    Calls Try.prog 12 #[.slice ao l.length c] w (RDecGot R T E w) := by
  obtain ⟨iI, hiI, hzI0, hzI1, hzI2⟩ := info_parts Try.infoU8
  have HB := Lib.hid hb
  have HL := Lib.hid hl
  obtain ⟨n, hn⟩ : ∃ n, n = l.length := ⟨_, rfl⟩
  have HN := Lib.hid hn
  have HRR : Hid (decA n [] 0 l = (R, T, E)) := Lib.hid (by rw [hn]; exact hR)
  have hl9 : (n : Int) ≤ 100000 := by omega
  have HG := Lib.hid fun (w' : World) (hk : Kept (fun _ => False) w w') (t : Nat) (ht : t ≤ l.length) => rgetVar_any ao c l w' (hb.kept hk) (by omega) t ht (gotW (l.drop t)).1 (gotW (l.drop t)).2.1 (gotW (l.drop t)).2.2 rfl
  have HGL := Lib.hid fun (t : Nat) => gotW_le (l.drop t) (fun x hx => hb.lt x (List.mem_of_mem_drop hx))
  have hcut := fun (lo hi : Nat) (h1 : lo ≤ hi) (h2 : hi ≤ c) (w : World) => run_cut Try.underlying25 hiI hzI1 ao n c lo hi h1 h2 w
  have HCUT := Lib.hid hcut
  rw [← hn] at HG ⊢
  have HB0 := Lib.hid (heap_alloc_new w (.cells #[.slice none 0 0, .int .i64 0, .int .i64 0] 33))
  have HK0 := Lib.hid ((Kept.refl (fun _ => False) w).alloc (.cells #[.slice none 0 0, .int .i64 0, .int .i64 0] 33))
  obtain ⟨w0, hw0⟩ : ∃ w0, w0 = w.alloc (.cells #[.slice none 0 0, .int .i64 0, .int .i64 0] 33) := ⟨_, rfl⟩
  obtain ⟨q0, hq0⟩ : ∃ q, q = w.heap.size := ⟨_, rfl⟩
  rw [← hw0] at HB0 HK0
  rw [← hq0] at HB0
  have HW0 := Lib.hid hw0
  have HQ0 := Lib.hid hq0
  clear hb hl hn hR hcut hw0 hq0
  go_enter Try.func12, Try.ntmps12
  go_upto_region 1 with fail
  rw [← HW0.out, ← HQ0.out]
  go_wp2
  go_loopg [3, 4] n (fun x s3 s4 wr => ∃ (k t : Nat) (acc : List PR), x = 0 + k ∧ t ≤ n ∧ n - t ≤ k ∧ acc.length ≤ t ∧ s4 = .int .i64 t ∧ decA k (recsR acc) t (l.drop t) = (R, T, E) ∧ MineF 0 w wr s3 acc ∧ wr.heap[q0]? = some (.cells #[.slice none 0 0, .int .i64 0, .int .i64 0] 33 (0, 0)))
  case atStart => exact ⟨n, 0, [], by omega, Nat.zero_le _, by omega, by simp, rfl, by simpa [recsR] using HRR.out, ⟨World.ownsRow_nil _ _ _ _, by simp, by simp, HK0.out⟩, HB0.out⟩
  case round =>
    obtain ⟨k, t, acc, rfl, htn, hk, hacc, rfl, hu, hm, hb0⟩ := hrel
    obtain ⟨a4, c4, e4⟩ := hm.slice
    subst e4
    have HM := Lib.hid hm
    have HU := Lib.hid hu
    have HA := Lib.hid hacc
    have HT := Lib.hid htn
    have HK := Lib.hid hk
    have HBR := Lib.hid hb0
    obtain ⟨m, hmm⟩ : ∃ m, m = acc.length := ⟨_, rfl⟩
    have HMM := Lib.hid hmm
    rw [← hmm] at HM ⊢
    clear hmm hu hm hacc hb0
    by_cases hd : t < n
    · obtain ⟨k, rfl⟩ : ∃ k', k = k' + 1 := ⟨k - 1, by omega⟩
      have hgv := HG.out wr HM.out.kept t (by have := HN.out; omega)
      obtain ⟨g1, g2, g3, g4⟩ := HGL.out t
      have hlen : (l.drop t).length = n - t := by rw [List.length_drop, HN.out]
      have hl0 : 0 < (l.drop t).length := by omega
      have ub := fun (G : Nat) (F : FR) (K : Nat) (hf : fieldW (l.drop t) = (F, K, G)) (hG : G ≠ 0) => decA_bad HU.out hl0 hf hG
      have ug := fun (F : FR) (K : Nat) (hf : fieldW (l.drop t) = (F, K, 0)) => decA_good HU.out hl0 hf
      have hdd : ∀ x, (l.drop t).drop x = l.drop (t + x) := fun x => by rw [List.drop_drop]
      have f1 := @fieldW_bad1 (l.drop t)
      have f2 := @fieldW_bad2 (l.drop t)
      have f3 := @fieldW_bad3 (l.drop t)
      have f4 := @fieldW_0 (l.drop t)
      have f5 := @fieldW_1 (l.drop t)
      have f6 := @fieldW_2 (l.drop t)
      rw [hlen] at g1
      obtain ⟨V, hV⟩ : ∃ V, V = (gotW (l.drop t)).1 := ⟨_, rfl⟩
      obtain ⟨N, hN⟩ : ∃ V, V = (gotW (l.drop t)).2.1 := ⟨_, rfl⟩
      obtain ⟨G, hG⟩ : ∃ V, V = (gotW (l.drop t)).2.2 := ⟨_, rfl⟩
      rw [← hV, ← hN, ← hG] at hgv
      rw [← hN] at g1 g2
      rw [← hG] at g2 f1 f2 f3
      rw [← hV] at g4 f2 f3
      simp only [← hV, ← hN, ← hG] at f4 f5 f6
      have HGV := Lib.hid hgv
      have hdi : (t : Int) < (n : Int) := by omega
      have hdi0 : (0 : Int) ≤ (t : Int) := by omega
      have HD := Lib.hid hd
      have HUB := Lib.hid ub
      have HUG := Lib.hid ug
      clear hV hN hG hgv htn hk hd g3 ub ug
      by_cases hG0 : G ≠ 0
      · have hq : ((G : Int) != 0) = true := bneT (by omega)
        have HF := Lib.hid (HUB.out G _ _ (f1 hG0) hG0)
        clear f1 f2 f3 f4 f5 f6 hG0 g1 g2 g4
        go_wp2_with fail
        refine HGV.out.mono ?_
        rintro e w1 ⟨rfl, hk1⟩
        have HK2 := Lib.hid (hk1.alloc (.cells #[(.int .u64 (V : Int)), (.int .i64 (N : Int)), (.int .i64 (G : Int))] 56))
        have HG2 := Lib.hid (heap_alloc_new w1 (.cells #[(.int .u64 (V : Int)), (.int .i64 (N : Int)), (.int .i64 (G : Int))] 56))
        obtain ⟨w2, hw2⟩ : ∃ w2, w2 = w1.alloc (.cells #[(.int .u64 (V : Int)), (.int .i64 (N : Int)), (.int .i64 (G : Int))] 56) := ⟨_, rfl⟩
        obtain ⟨qg, hqg⟩ : ∃ q, q = w1.heap.size := ⟨_, rfl⟩
        rw [← hw2] at HK2 HG2
        rw [← hqg] at HG2
        have HW2 := Lib.hid hw2
        have HQG := Lib.hid hqg
        clear hk1 hw2 hqg
        go_upto_region 5 with fail
        rw [← HW2.out, ← HQG.out]
        have hbg := box3 HG2.out
        have HBE := Lib.hid (HK2.out.same HBR.out (fun x => x))
        have hbe := box3 HBE.out
        go_wp2
        refine bodyPost_ret (v := .agg #[.slice none 0 0, .int .i64 (t : Int), .int .i64 (G : Int)]) ?_ rfl ?_
        · exact results_cell_row Try.results12 _ _ q0 33 _ (0, 0) _ rfl (three_set HBE.out) Try.underlying33 rfl msg_info
        · exact RDecGot.bad HF.out (three_kept (HM.out.kept.trans HK2.out) (by have := HQ0.out; omega))
      · have hG1 : G = 0 := by omega
        subst hG1
        obtain ⟨T8, hT8⟩ : ∃ A, A = V % 8 := ⟨_, rfl⟩
        obtain ⟨NU, hNU⟩ : ∃ B, B = V / 8 := ⟨_, rfl⟩
        have v8 : (V : Int) % 8 = (T8 : Int) := by omega
        have v9 : (V : Int) / 8 = (NU : Int) := by omega
        rw [← hT8] at f2
        rw [← hT8, ← hNU] at f3
        simp only [← hT8, ← hNU] at f4 f5 f6
        have h8lt : T8 < 8 := by omega
        have u0 : IntKind.u64.wrap (NU : Int) = (NU : Int) := by rw [IntKind.wrap_u64]; omega
        clear hT8 hNU hG0 f1
        by_cases hA2 : 2 < T8
        · have HF := Lib.hid (HUB.out 14 _ _ (f2 rfl hA2) (by decide))
          have hq : (2 : Int) < (T8 : Int) := by omega
          clear f2 f3 f4 f5 f6 hA2 g1 g2 g4
          go_wp2_with fail
          refine HGV.out.mono ?_
          rintro e w1 ⟨rfl, hk1⟩
          have HK2 := Lib.hid (hk1.alloc (.cells #[(.int .u64 (V : Int)), (.int .i64 (N : Int)), (.int .i64 0)] 56))
          have HG2 := Lib.hid (heap_alloc_new w1 (.cells #[(.int .u64 (V : Int)), (.int .i64 (N : Int)), (.int .i64 0)] 56))
          obtain ⟨w2, hw2⟩ : ∃ w2, w2 = w1.alloc (.cells #[(.int .u64 (V : Int)), (.int .i64 (N : Int)), (.int .i64 0)] 56) := ⟨_, rfl⟩
          obtain ⟨qg, hqg⟩ : ∃ q, q = w1.heap.size := ⟨_, rfl⟩
          rw [← hw2] at HK2 HG2
          rw [← hqg] at HG2
          have HW2 := Lib.hid hw2
          have HQG := Lib.hid hqg
          clear hk1 hw2 hqg
          go_upto_region 5 with fail
          rw [← HW2.out, ← HQG.out]
          have hbg := box3 HG2.out
          have HBE := Lib.hid (HK2.out.same HBR.out (fun x => x))
          have hbe := box3 HBE.out
          go_wp2
          refine bodyPost_ret (v := .agg #[.slice none 0 0, .int .i64 (t : Int), .int .i64 14]) ?_ rfl ?_
          · exact results_cell_row Try.results12 _ _ q0 33 _ (0, 0) _ rfl (three_set HBE.out) Try.underlying33 rfl msg_info
          · exact RDecGot.bad HF.out (three_kept (HM.out.kept.trans HK2.out) (by have := HQ0.out; omega))
        · have hq : ¬ (2 : Int) < (T8 : Int) := by omega
          by_cases hB3 : NU < 1 ∨ 536870911 < NU
          · have HF := Lib.hid (HUB.out 1 _ _ (f3 rfl hA2 hB3) (by decide))
            clear f2 f3 f4 f5 f6 hA2 g1 g2 g4
            rcases (show (NU : Int) < 1 ∨ ¬ (NU : Int) < 1 ∧ (536870911 : Int) < (NU : Int) by omega) with q1 | ⟨q1, q2⟩ <;> clear hB3 <;>
            · go_wp2_with fail
              refine HGV.out.mono ?_
              rintro e w1 ⟨rfl, hk1⟩
              have HK2 := Lib.hid (hk1.alloc (.cells #[(.int .u64 (V : Int)), (.int .i64 (N : Int)), (.int .i64 0)] 56))
              have HG2 := Lib.hid (heap_alloc_new w1 (.cells #[(.int .u64 (V : Int)), (.int .i64 (N : Int)), (.int .i64 0)] 56))
              obtain ⟨w2, hw2⟩ : ∃ w2, w2 = w1.alloc (.cells #[(.int .u64 (V : Int)), (.int .i64 (N : Int)), (.int .i64 0)] 56) := ⟨_, rfl⟩
              obtain ⟨qg, hqg⟩ : ∃ q, q = w1.heap.size := ⟨_, rfl⟩
              rw [← hw2] at HK2 HG2
              rw [← hqg] at HG2
              have HW2 := Lib.hid hw2
              have HQG := Lib.hid hqg
              clear hk1 hw2 hqg
              go_upto_region 5 with fail
              rw [← HW2.out, ← HQG.out]
              have hbg := box3 HG2.out
              have HBE := Lib.hid (HK2.out.same HBR.out (fun x => x))
              have hbe := box3 HBE.out
              go_wp2
              refine bodyPost_ret (v := .agg #[.slice none 0 0, .int .i64 (t : Int), .int .i64 1]) ?_ rfl ?_
              · exact results_cell_row Try.results12 _ _ q0 33 _ (0, 0) _ rfl (three_set HBE.out) Try.underlying33 rfl msg_info
              · exact RDecGot.bad HF.out (three_kept (HM.out.kept.trans HK2.out) (by have := HQ0.out; omega))
          · have q1 : ¬ (NU : Int) < 1 := by omega
            have q2 : ¬ (536870911 : Int) < (NU : Int) := by omega
            have u1 : IntKind.i64.wrap (NU : Int) = (NU : Int) := IntWalk.i64_in _ ⟨by omega, by omega⟩
            have hN1 := g2 rfl
            obtain ⟨K, hK⟩ : ∃ K, K = t + N := ⟨_, rfl⟩
            have k1 : (t : Int) + (N : Int) = (K : Int) := by omega
            have k2 : IntKind.i64.wrap (K : Int) = (K : Int) := IntWalk.i64_in _ ⟨by omega, by omega⟩
            have hKn : K ≤ n := by omega
            obtain ⟨RL, hRL⟩ : ∃ x, x = n - K := ⟨_, rfl⟩
            have k3 : (n : Int) - (K : Int) = (RL : Int) := by omega
            have k4 : IntKind.i64.wrap (RL : Int) = (RL : Int) := IntWalk.i64_in _ ⟨by omega, by omega⟩
            have k5 : IntKind.u64.wrap (RL : Int) = (RL : Int) := by rw [IntKind.wrap_u64]; omega
            have hrd : (l.drop t).drop N = l.drop K := by rw [hdd, hK]
            have hrl : (l.drop K).length = RL := by rw [List.length_drop, ← HN.out, hRL]
            have k0 : (0 : Int) ≤ (K : Int) := by omega
            have F4 := fun h => f4 trivial hB3 h rfl hrd
            have F5 := fun h => f5 trivial hB3 h rfl hrd
            have F6 := fun h => f6 trivial hB3 h rfl hrd
            have HKK := Lib.hid (And.intro hK (And.intro hKn (And.intro hRL (And.intro hN1 g1))))
            have HRL := Lib.hid hrl
            have HNU := Lib.hid (And.intro q1 q2)
            clear f2 f3 f4 f5 f6 hB3 hA2 g1 g2 g4 hN1 hK hRL hrd hKn hrl hdd
            rcases (show T8 = 1 ∨ T8 = 0 ∨ T8 = 2 by omega) with h0 | h0 | h0
            · subst h0
              clear h8lt hq
              have hqt : ((1 : Int) == 1) = true := by decide
              have HNB := Lib.hid (show (Value.slice a4 m c4).ownBlock ≠ some q0 from own_box HM.out.own HBR.out (by decide))
              have F5' := F5 rfl
              by_cases h8 : RL < 8
              · have HF := Lib.hid (HUB.out 2 _ _ (by rw [F5']; unfold fixGot; rw [HRL.out, if_pos h8]; rfl) (by decide))
                have z8 : (RL : Int) < 8 := by omega
                clear F4 F5 F5' F6 h8
                go_wp2_with fail
                refine HGV.out.mono ?_
                rintro e w1 ⟨rfl, hk1⟩
                have HK2 := Lib.hid (hk1.alloc (.cells #[(.int .u64 (V : Int)), (.int .i64 (N : Int)), (.int .i64 0)] 56))
                have HG2 := Lib.hid (heap_alloc_new w1 (.cells #[(.int .u64 (V : Int)), (.int .i64 (N : Int)), (.int .i64 0)] 56))
                obtain ⟨w2, hw2⟩ : ∃ w2, w2 = w1.alloc (.cells #[(.int .u64 (V : Int)), (.int .i64 (N : Int)), (.int .i64 0)] 56) := ⟨_, rfl⟩
                obtain ⟨qg, hqg⟩ : ∃ q, q = w1.heap.size := ⟨_, rfl⟩
                rw [← hw2] at HK2 HG2
                rw [← hqg] at HG2
                have HW2 := Lib.hid hw2
                have HQG := Lib.hid hqg
                clear hk1 hw2 hqg
                go_upto_region 5 with fail
                rw [← HW2.out, ← HQG.out]
                have hbg := box3 HG2.out
                have HK3 := Lib.hid (HK2.out.alloc (.cells #[(.int .i64 (NU : Int)), (.int .i64 1), (.int .u64 0), (.slice none 0 0)] 40))
                have HG3 := Lib.hid (((Kept.refl (fun _ => False) w2).alloc (.cells #[(.int .i64 (NU : Int)), (.int .i64 1), (.int .u64 0), (.slice none 0 0)] 40)).same HG2.out (fun x => x))
                have HF3 := Lib.hid (heap_alloc_new w2 (.cells #[(.int .i64 (NU : Int)), (.int .i64 1), (.int .u64 0), (.slice none 0 0)] 40))
                have HGQ := Lib.hid (show qg < w2.heap.size from (Array.getElem?_eq_some_iff.1 HG2.out).1)
                obtain ⟨w3, hw3⟩ : ∃ w3, w3 = w2.alloc (.cells #[(.int .i64 (NU : Int)), (.int .i64 1), (.int .u64 0), (.slice none 0 0)] 40) := ⟨_, rfl⟩
                obtain ⟨qf, hqf⟩ : ∃ q, q = w2.heap.size := ⟨_, rfl⟩
                rw [← hw3] at HK3 HG3 HF3
                rw [← hqf] at HF3 HGQ
                have HW3 := Lib.hid hw3
                have HQF := Lib.hid (show wr.heap.size ≤ qf by rw [hqf]; exact HK2.out.size)
                have HQE := Lib.hid hqf
                clear hw3 hqf
                go_upto_region 12 with fail
                rw [← HW3.out, ← HQE.out]
                have hbg3 := box3 HG3.out
                have hbf3 := box4 HF3.out
                clear hbg
                have HBE := Lib.hid (HK3.out.same HBR.out (fun x => x))
                have hbe := box3 HBE.out
                go_wp2
                refine bodyPost_ret (v := .agg #[.slice none 0 0, .int .i64 (t : Int), .int .i64 2]) ?_ rfl ?_
                · exact results_cell_row Try.results12 _ _ q0 33 _ (0, 0) _ rfl (three_set HBE.out) Try.underlying33 rfl msg_info
                · exact RDecGot.bad HF.out (three_kept (HM.out.kept.trans HK3.out) (by have := HQ0.out; omega))
              · have z8 : ¬ (RL : Int) < 8 := by omega
                obtain ⟨P8, hP8⟩ : ∃ x, x = (l.drop K).take 8 := ⟨_, rfl⟩
                have hPl : P8.length = 8 := by rw [hP8, List.length_take, HRL.out]; omega
                have hPb : ∀ x ∈ P8, x < 256 := fun x hx => HB.out.lt x (by rw [hP8] at hx; exact List.mem_of_mem_drop (List.mem_of_mem_take hx))
                have hfg : fieldW (l.drop t) = (⟨((NU : Nat) : Int), 1, num8 P8, []⟩, N + 8, 0) := by rw [F5']; unfold fixGot; rw [HRL.out, if_neg h8, hP8]; rfl
                have HU9 := Lib.hid (HUG.out _ _ hfg)
                rw [List.drop_drop] at HU9
                have HPG : Hid (∀ j, j < 8 → P8.getD j 0 = l.getD (K + j) 0 ∧ P8.getD j 0 < 256) := Lib.hid fun j hj => ⟨by rw [hP8]; simp only [List.getD_eq_getElem?_getD, List.getElem?_take, if_pos hj, List.getElem?_drop], by rw [List.getD_eq_getElem?_getD, List.getElem?_eq_getElem (by omega)]; exact hPb _ (List.getElem_mem _)⟩
                have hnl := num8_lt P8 hPb
                rw [hPl, ← p256] at hnl
                have HNL := Lib.hid hnl
                have HPL := Lib.hid hPl
                have HPB := Lib.hid hPb
                have HR8 := Lib.hid (show 8 ≤ RL by omega)
                clear F4 F5 F5' F6 h8 hfg hP8 hPl hPb hnl
                go_wp2_with fail
                refine HGV.out.mono ?_
                rintro e w1 ⟨rfl, hk1⟩
                have HK2 := Lib.hid (hk1.alloc (.cells #[(.int .u64 (V : Int)), (.int .i64 (N : Int)), (.int .i64 0)] 56))
                have HG2 := Lib.hid (heap_alloc_new w1 (.cells #[(.int .u64 (V : Int)), (.int .i64 (N : Int)), (.int .i64 0)] 56))
                obtain ⟨w2, hw2⟩ : ∃ w2, w2 = w1.alloc (.cells #[(.int .u64 (V : Int)), (.int .i64 (N : Int)), (.int .i64 0)] 56) := ⟨_, rfl⟩
                obtain ⟨qg, hqg⟩ : ∃ q, q = w1.heap.size := ⟨_, rfl⟩
                rw [← hw2] at HK2 HG2
                rw [← hqg] at HG2
                have HW2 := Lib.hid hw2
                have HQG := Lib.hid hqg
                clear hk1 hw2 hqg
                go_upto_region 5 with fail
                rw [← HW2.out, ← HQG.out]
                have hbg := box3 HG2.out
                have HK3 := Lib.hid (HK2.out.alloc (.cells #[(.int .i64 (NU : Int)), (.int .i64 1), (.int .u64 0), (.slice none 0 0)] 40))
                have HG3 := Lib.hid (((Kept.refl (fun _ => False) w2).alloc (.cells #[(.int .i64 (NU : Int)), (.int .i64 1), (.int .u64 0), (.slice none 0 0)] 40)).same HG2.out (fun x => x))
                have HF3 := Lib.hid (heap_alloc_new w2 (.cells #[(.int .i64 (NU : Int)), (.int .i64 1), (.int .u64 0), (.slice none 0 0)] 40))
                have HGQ := Lib.hid (show qg < w2.heap.size from (Array.getElem?_eq_some_iff.1 HG2.out).1)
                obtain ⟨w3, hw3⟩ : ∃ w3, w3 = w2.alloc (.cells #[(.int .i64 (NU : Int)), (.int .i64 1), (.int .u64 0), (.slice none 0 0)] 40) := ⟨_, rfl⟩
                obtain ⟨qf, hqf⟩ : ∃ q, q = w2.heap.size := ⟨_, rfl⟩
                rw [← hw3] at HK3 HG3 HF3
                rw [← hqf] at HF3 HGQ
                have HW3 := Lib.hid hw3
                have HQF := Lib.hid (show wr.heap.size ≤ qf by rw [hqf]; exact HK2.out.size)
                have HQE := Lib.hid hqf
                clear hw3 hqf
                go_upto_region 12 with fail
                rw [← HW3.out, ← HQE.out]
                have hbg3 := box3 HG3.out
                have hbf3 := box4 HF3.out
                clear hbg
                have HKR := Lib.hid HK3.out
                have HQFR := Lib.hid HQF.out
                have HKR0 := Lib.hid HM.out.kept
                obtain ⟨WR, hWR⟩ : ∃ x, x = wr := ⟨_, rfl⟩
                rw [← hWR] at HKR HQFR HKR0 HM HBR HK3
                clear hWR
                go_wp2
                go_loopg [8] 8 (fun x s8 wj => ∃ (j : Nat) (u : Int), j ≤ 8 ∧ x = 0 + j ∧ u + 1 = (j : Int) ∧ s8 = .int .i64 u ∧ wj.heap[qf]? = some (.cells #[.int .i64 (NU : Int), .int .i64 1, .int .u64 ((num8 (P8.drop j) : Nat) : Int), .slice none 0 0] 40 (0, 0)) ∧ Kept (fun _ => False) WR wj)
                case atStart => exact ⟨8, 7, by omega, by omega, by omega, rfl, by rw [List.drop_eq_nil_of_le (by rw [HPL.out]; exact Nat.le_refl _)]; exact HF3.out, HKR.out⟩
                case round =>
                  obtain ⟨j, u, hj, rfl, hu, rfl, hf, hkj⟩ := hrel
                  have HFJ := Lib.hid hf
                  have HKJ := Lib.hid hkj
                  have HJ := Lib.hid hj
                  clear hf hkj v8
                  by_cases h0 : j = 0
                  · subst h0
                    have hu1 : u = -1 := by omega
                    subst hu1
                    clear hu hj
                    rw [List.drop_zero] at HFJ
                    obtain ⟨NX, hNX⟩ : ∃ x, x = num8 P8 := ⟨_, rfl⟩
                    rw [← hNX] at HFJ HU9 HNL
                    have k6 : (K : Int) + 8 = ((t + (N + 8) : Nat) : Int) := by have := HKK.out; omega
                    obtain ⟨K9, hK9⟩ : ∃ x, x = t + (N + 8) := ⟨_, rfl⟩
                    rw [← hK9] at k6 HU9
                    have HK9 := Lib.hid hK9
                    have k7 : IntKind.i64.wrap (K9 : Int) = (K9 : Int) := IntWalk.i64_in _ ⟨by omega, by have := HKK.out; have := HR8.out; omega⟩
                    have HOK : Hid (∀ w', FldOk w' ⟨⟨(NU : Int), 1, NX, []⟩, none, 0⟩) := Lib.hid fun w' => ⟨by unfold I64; have := HNU.out; simp only; omega, by unfold I64; simp only; omega, HNL.out, By.ofMine (Mine.nil w' 5) (by simp)⟩
                    have HSEP : Hid (([] : List Nat) ≠ [] → ∀ a : Addr, (none : Option Addr) = some a → (Value.slice a4 m c4).ownBlock ≠ some a.block ∧ 0 ≤ a.block) := Lib.hid fun h => absurd rfl h
                    clear hNX hK9
                    have HSRC : Hid (∀ (w : World), Src Try.prog 4 22 (.slice (some ⟨w.heap.size, 0, none⟩) 1 1) 1 [.int .i64 (NU : Int), .int .i64 1, .int .u64 (NX : Int), .slice none 0 0] (w.alloc (.cells #[.int .i64 (NU : Int), .int .i64 1, .int .u64 (NX : Int), .slice none 0 0] 40))) := Lib.hid fun w => src_oneF w ⟨⟨(NU : Int), 1, NX, []⟩, none, 0⟩
                    have HC : Hid (cellsP ⟨⟨(NU : Int), 1, NX, []⟩, none, 0⟩ = [.int .i64 (NU : Int), .int .i64 1, .int .u64 (NX : Int), .slice none 0 0]) := Lib.hid rfl
                    have hbx := box4 HFJ.out
                    go_wp2_with (at_builtin; refine wpList_mineF rfl (.tmp 127) (.tmp 129) rfl 0 w _ _ rfl ((HM.out.on HKJ.out).on ((Kept.refl _ _).alloc _)) _ ⟨⟨(NU : Int), 1, NX, []⟩, none, 0⟩ rfl (by rw [HC.out]; exact HSRC.out _) ((HOK.out _).kept ((Kept.refl _ _).alloc _)) HSEP.out (by have := HMM.out; have := HA.out; have := HT.out; have := HL.out; have := HN.out; omega) ?_; intro v6 w6 hm6 hk6; have HM6 := Lib.hid hm6; have HB6 := Lib.hid (hk6.same (((HKJ.out.alloc _)).same HBR.out (fun x => x)) (fun e => HNB.out e)); clear hm6 hk6)
                    go_roundg k
                    case measure => omega
                    case rel => exact ⟨k, K9, acc ++ [⟨⟨(NU : Int), 1, NX, []⟩, none, 0⟩], by omega, by have := HKK.out; have := HK9.out; have := HR8.out; omega, by have := HKK.out; have := HK.out; have := HK9.out; have := HR8.out; omega, by have := HKK.out; have := HA.out; have := HK9.out; have := HR8.out; simp; omega, by go_num, by have := HU9.out; unfold recsR at this ⊢; rw [List.map_append]; exact this, HM6.out, HB6.out⟩
                  · obtain ⟨i, rfl⟩ : ∃ i, j = i + 1 := ⟨j - 1, by omega⟩
                    have hu1 : u = (i : Int) := by omega
                    subst hu1
                    have hi8 : i < 8 := by omega
                    obtain ⟨pg1, pg2⟩ := HPG.out i hi8
                    have hnd := num8_drop P8 i (by rw [HPL.out]; exact hi8)
                    have hb9 := bys_get (l := l) (j := K + i) (by have := HKK.out; have := HR8.out; have := HN.out; omega)
                    obtain ⟨g9, o9, e9, hc9⟩ := (HB.out.at_).elem hb9
                    subst e9
                    rw [← pg1] at hc9
                    have hx1 := num8_lt (P8.drop (i + 1)) (fun x hx => HPB.out x (List.mem_of_mem_drop hx))
                    rw [List.length_drop, HPL.out] at hx1
                    have hx2 : 256 ^ (8 - (i + 1)) ≤ 256 ^ 7 := Nat.pow_le_pow_right (by omega) (by omega)
                    have hx3 : (256 : Nat) ^ 7 = 72057594037927936 := by decide
                    obtain ⟨X, hX⟩ : ∃ x, x = num8 (P8.drop (i + 1)) := ⟨_, rfl⟩
                    obtain ⟨C, hC⟩ : ∃ x, x = P8.getD i 0 := ⟨_, rfl⟩
                    obtain ⟨Y, hY⟩ : ∃ x, x = num8 (P8.drop i) := ⟨_, rfl⟩
                    rw [← hX] at hx1 hnd HFJ
                    rw [← hC] at hc9 hnd pg2
                    rw [← hY] at hnd
                    have y1 : 256 * (X : Int) = ((256 * X : Nat) : Int) := by omega
                    have y2 : IntKind.u64.wrap ((256 * X : Nat) : Int) = ((256 * X : Nat) : Int) := by rw [IntKind.wrap_u64]; omega
                    have y3 : ((256 * X : Nat) : Int) + (C : Int) = (Y : Int) := by omega
                    have y4 : IntKind.u64.wrap (Y : Int) = (Y : Int) := by rw [IntKind.wrap_u64]; omega
                    have y5 : IntKind.u64.wrap (C : Int) = (C : Int) := by rw [IntKind.wrap_u64]; omega
                    obtain ⟨XX, hXX⟩ : ∃ x, x = 256 * X := ⟨_, rfl⟩
                    rw [← hXX] at y1 y2 y3
                    obtain ⟨KI, hKI⟩ : ∃ x, x = K + i := ⟨_, rfl⟩
                    rw [← hKI] at hc9
                    have y6 : (K : Int) + (i : Int) = (KI : Int) := by omega
                    have y7 : IntKind.i64.wrap (KI : Int) = (KI : Int) := IntWalk.i64_in _ ⟨by omega, by have := HKK.out; have := HR8.out; omega⟩
                    have y8 : (KI : Int) < (n : Int) := by have := HKK.out; have := HR8.out; omega
                    have y9 : (0 : Int) ≤ (KI : Int) := by omega
                    have y10 : (0 : Int) ≤ (i : Int) := by omega
                    have HC9 := Lib.hid hc9
                    have HI8 := Lib.hid hi8
                    have HYE := Lib.hid hY
                    have HFD := Lib.hid (((Kept.refl (fun _ => False) wr).drew).same HFJ.out (fun x => x))
                    have HKD := Lib.hid (HKJ.out.trans ((Kept.refl (fun _ => False) wr).drew))
                    clear hu hj pg1 pg2 hnd hb9 hx1 hx2 hx3 hX hC hY hXX hKI h0 hc9 hi8
                    go_upto_region 19 with fail
                    refine AnyBut.start (S := fun w' => w'.cell? ⟨qf, 2, none⟩ = some (.int .u64 (X : Int)) ∧ w'.cell? ⟨g9, o9 + KI, none⟩ = some (.int .u8 (C : Int))) (k := 12) (by kernel_rfl) ?_
                    obtain ⟨wd, hwd⟩ : ∃ w', w' = wr.drew := ⟨_, rfl⟩
                    rw [← hwd] at HFD HKD ⊢
                    have HFZ := Lib.hid (box4 HFD.out).2.2.2.1
                    have HSJ : Hid ((fun w' => w'.cell? ⟨qf, 2, none⟩ = some (.int .u64 (X : Int)) ∧ w'.cell? ⟨g9, o9 + KI, none⟩ = some (.int .u8 (C : Int))) wd) := Lib.hid ⟨(box4 HFD.out).1.2.2.1, HKR0.out.trans HKD.out |>.cell HC9.out (fun x => x)⟩
                    clear hwd
                    refine AnyBut.take (i := 0) (v := ?v1) rfl (by kernel_rfl) (by kernel_rfl) (by kernel_rfl) (by kernel_rfl) (fun _ _ _ h => h) (HSJ.out) (Or.inl ⟨by kernel_rfl, ?hy1⟩) ?r1
                    case hy1 =>
                      intro w hSw
                      try dsimp only at hSw
                      go_simp
                      try with_reducible rfl
                    try simp only [Act.put, List.getElem_toArray, List.getElem_cons_zero, List.setIfInBounds_toArray, List.set_cons_zero, List.set_cons_succ]
                    refine AnyBut.take (i := 1) (v := ?v2) rfl (by kernel_rfl) (by kernel_rfl) (by kernel_rfl) (by kernel_rfl) (fun _ _ _ h => h) (HSJ.out) (Or.inl ⟨by kernel_rfl, ?hy2⟩) ?r2
                    case hy2 =>
                      intro w hSw
                      try dsimp only at hSw
                      go_simp
                      try with_reducible rfl
                    try simp only [Act.put, List.getElem_toArray, List.getElem_cons_succ, List.getElem_cons_zero, List.setIfInBounds_toArray, List.set_cons_zero, List.set_cons_succ]
                    refine AnyBut.take (i := 2) (v := ?v3) rfl (by kernel_rfl) (by kernel_rfl) (by kernel_rfl) (by kernel_rfl) (fun _ _ _ h => h) (HSJ.out) (Or.inl ⟨by kernel_rfl, ?hy3⟩) ?r3
                    case hy3 =>
                      intro w hSw
                      try dsimp only at hSw
                      go_simp
                      try with_reducible rfl
                    try simp only [Act.put, List.getElem_toArray, List.getElem_cons_succ, List.getElem_cons_zero, List.setIfInBounds_toArray, List.set_cons_zero, List.set_cons_succ]
                    refine AnyBut.take (i := 3) (v := ?v4) rfl (by kernel_rfl) (by kernel_rfl) (by kernel_rfl) (by kernel_rfl) (fun _ _ _ h => h) (HSJ.out) (Or.inl ⟨by kernel_rfl, ?hy4⟩) ?r4
                    case hy4 =>
                      intro w hSw
                      try dsimp only at hSw
                      go_simp
                      try with_reducible rfl
                    try simp only [Act.put, List.getElem_toArray, List.getElem_cons_succ, List.getElem_cons_zero, List.setIfInBounds_toArray, List.set_cons_zero, List.set_cons_succ]
                    refine AnyBut.take (i := 4) (v := ?v5) rfl (by kernel_rfl) (by kernel_rfl) (by kernel_rfl) (by kernel_rfl) (fun _ _ _ h => h) (HSJ.out) (Or.inl ⟨by kernel_rfl, ?hy5⟩) ?r5
                    case hy5 =>
                      intro w hSw
                      try dsimp only at hSw
                      go_simp
                      try with_reducible rfl
                    try simp only [Act.put, List.getElem_toArray, List.getElem_cons_succ, List.getElem_cons_zero, List.setIfInBounds_toArray, List.set_cons_zero, List.set_cons_succ]
                    refine AnyBut.take (i := 5) (v := ?v6) rfl (by kernel_rfl) (by kernel_rfl) (by kernel_rfl) (by kernel_rfl) (fun _ _ _ h => h) (HSJ.out) (Or.inl ⟨by kernel_rfl, ?hy6⟩) ?r6
                    case hy6 =>
                      intro w hSw
                      try dsimp only at hSw
                      go_simp
                      try with_reducible rfl
                    try simp only [Act.put, List.getElem_toArray, List.getElem_cons_succ, List.getElem_cons_zero, List.setIfInBounds_toArray, List.set_cons_zero, List.set_cons_succ]
                    refine AnyBut.take (i := 6) (v := ?v7) rfl (by kernel_rfl) (by kernel_rfl) (by kernel_rfl) (by kernel_rfl) (fun _ _ _ h => h) (HSJ.out) (Or.inl ⟨by kernel_rfl, ?hy7⟩) ?r7
                    case hy7 =>
                      intro w hSw
                      try dsimp only at hSw
                      go_simp
                      try with_reducible rfl
                    try simp only [Act.put, List.getElem_toArray, List.getElem_cons_succ, List.getElem_cons_zero, List.setIfInBounds_toArray, List.set_cons_zero, List.set_cons_succ]
                    refine AnyBut.take (i := 7) (v := ?v8) rfl (by kernel_rfl) (by kernel_rfl) (by kernel_rfl) (by kernel_rfl) (fun _ _ _ h => h) (HSJ.out) (Or.inl ⟨by kernel_rfl, ?hy8⟩) ?r8
                    case hy8 =>
                      intro w hSw
                      try dsimp only at hSw
                      go_simp
                      try with_reducible rfl
                    try simp only [Act.put, List.getElem_toArray, List.getElem_cons_succ, List.getElem_cons_zero, List.setIfInBounds_toArray, List.set_cons_zero, List.set_cons_succ]
                    refine AnyBut.take (i := 8) (v := ?v9) rfl (by kernel_rfl) (by kernel_rfl) (by kernel_rfl) (by kernel_rfl) (fun _ _ _ h => h) (HSJ.out) (Or.inl ⟨by kernel_rfl, ?hy9⟩) ?r9
                    case hy9 =>
                      intro w hSw
                      try dsimp only at hSw
                      go_simp
                      try with_reducible rfl
                    try simp only [Act.put, List.getElem_toArray, List.getElem_cons_succ, List.getElem_cons_zero, List.setIfInBounds_toArray, List.set_cons_zero, List.set_cons_succ]
                    refine AnyBut.take (i := 9) (v := ?v10) rfl (by kernel_rfl) (by kernel_rfl) (by kernel_rfl) (by kernel_rfl) (fun _ _ _ h => h) (HSJ.out) (Or.inl ⟨by kernel_rfl, ?hy10⟩) ?r10
                    case hy10 =>
                      intro w hSw
                      try dsimp only at hSw
                      go_simp
                      try with_reducible rfl
                    try simp only [Act.put, List.getElem_toArray, List.getElem_cons_succ, List.getElem_cons_zero, List.setIfInBounds_toArray, List.set_cons_zero, List.set_cons_succ]
                    refine AnyBut.take (i := 10) (v := ?v11) rfl (by kernel_rfl) (by kernel_rfl) (by kernel_rfl) (by kernel_rfl) (fun _ _ _ h => h) (HSJ.out) (Or.inl ⟨by kernel_rfl, ?hy11⟩) ?r11
                    case hy11 =>
                      intro w hSw
                      try dsimp only at hSw
                      go_simp
                      try with_reducible rfl
                    try simp only [Act.put, List.getElem_toArray, List.getElem_cons_succ, List.getElem_cons_zero, List.setIfInBounds_toArray, List.set_cons_zero, List.set_cons_succ]
                    refine AnyBut.take (i := 11) (v := ?v12) rfl (by kernel_rfl) (by kernel_rfl) (by kernel_rfl) (by kernel_rfl) (fun _ _ _ h => h) (HSJ.out) (Or.inl ⟨by kernel_rfl, ?hy12⟩) ?r12
                    case hy12 =>
                      intro w hSw
                      try dsimp only at hSw
                      go_simp
                      try with_reducible rfl
                    try simp only [Act.put, List.getElem_toArray, List.getElem_cons_succ, List.getElem_cons_zero, List.setIfInBounds_toArray, List.set_cons_zero, List.set_cons_succ]
                    refine AnyBut.last (by kernel_rfl) rfl (by kernel_rfl) (fun K hK => ?_)
                    have fz := HFZ.out
                    obtain ⟨x0, x1⟩ := HSJ.out
                    go_simp
                    go_wp2
                    refine hK.out _ _ ?_
                    clear hK K
                    try simp only [Act.put, List.getElem_toArray, List.getElem_cons_succ, List.getElem_cons_zero, List.setIfInBounds_toArray, List.set_cons_zero, List.set_cons_succ]
                    clear x0 x1 fz
                    have hk9 := HKD.out.setCell (p := ⟨qf, 2, none⟩) (fun hlt => by simp only at hlt; have := HQFR.out; omega) (.int .u64 (Y : Int))
                    have hf9 := four_set2 (x := .int .u64 (Y : Int)) HFD.out
                    obtain ⟨w9, hw9⟩ : ∃ w', w' = wd.setCell ⟨qf, 2, none⟩ (.int .u64 (Y : Int)) := ⟨_, rfl⟩
                    rw [← hw9] at hk9 hf9 ⊢
                    have HK9 := Lib.hid hk9
                    have HF9 := Lib.hid hf9
                    clear hk9 hf9 hw9
                    go_wp2
                    go_roundg i
                    case measure => omega
                    case rel => exact ⟨i, (i : Int) - 1, by have := HI8.out; omega, by omega, by omega, by go_num, by rw [← HYE.out]; exact HF9.out, HK9.out⟩
            · subst h0
              clear h8lt hq
              have hqt : ((0 : Int) == 1) = false := by decide
              have HNB := Lib.hid (show (Value.slice a4 m c4).ownBlock ≠ some q0 from own_box HM.out.own HBR.out (by decide))
              have FX := F4 rfl
              have hgv2 := fun w' (hk : Kept (fun _ => False) w w') => HG.out w' hk K (by have := HKK.out; have := HN.out; omega)
              obtain ⟨d1, d2, _, d4⟩ := HGL.out K
              rw [HRL.out] at d1
              obtain ⟨V2, hV2⟩ : ∃ V, V = (gotW (l.drop K)).1 := ⟨_, rfl⟩
              obtain ⟨N2, hN2⟩ : ∃ V, V = (gotW (l.drop K)).2.1 := ⟨_, rfl⟩
              obtain ⟨E2, hE2⟩ : ∃ V, V = (gotW (l.drop K)).2.2 := ⟨_, rfl⟩
              rw [← hV2, ← hN2, ← hE2] at hgv2
              rw [← hN2] at d1 d2
              rw [← hE2] at d2
              rw [← hV2] at d4
              have HGW := Lib.hid hgv2
              clear hgv2
              simp only [← hV2, ← hN2, ← hE2] at FX
              clear hV2 hN2 hE2 F4 F5 F6
              by_cases hE20 : E2 ≠ 0
              · have HF := Lib.hid (HUB.out E2 _ _ (by rw [FX, if_pos hE20]) hE20)
                have he : ((E2 : Int) != 0) = true := bneT (by omega)
                clear FX hE20 d1 d2 d4
                go_wp2_with fail
                refine HGV.out.mono ?_
                rintro e w1 ⟨rfl, hk1⟩
                have HK2 := Lib.hid (hk1.alloc (.cells #[(.int .u64 (V : Int)), (.int .i64 (N : Int)), (.int .i64 0)] 56))
                have HG2 := Lib.hid (heap_alloc_new w1 (.cells #[(.int .u64 (V : Int)), (.int .i64 (N : Int)), (.int .i64 0)] 56))
                obtain ⟨w2, hw2⟩ : ∃ w2, w2 = w1.alloc (.cells #[(.int .u64 (V : Int)), (.int .i64 (N : Int)), (.int .i64 0)] 56) := ⟨_, rfl⟩
                obtain ⟨qg, hqg⟩ : ∃ q, q = w1.heap.size := ⟨_, rfl⟩
                rw [← hw2] at HK2 HG2
                rw [← hqg] at HG2
                have HW2 := Lib.hid hw2
                have HQG := Lib.hid hqg
                clear hk1 hw2 hqg
                go_upto_region 5 with fail
                rw [← HW2.out, ← HQG.out]
                have hbg := box3 HG2.out
                have HK3 := Lib.hid (HK2.out.alloc (.cells #[(.int .i64 (NU : Int)), (.int .i64 0), (.int .u64 0), (.slice none 0 0)] 40))
                have HG3 := Lib.hid (((Kept.refl (fun _ => False) w2).alloc (.cells #[(.int .i64 (NU : Int)), (.int .i64 0), (.int .u64 0), (.slice none 0 0)] 40)).same HG2.out (fun x => x))
                have HF3 := Lib.hid (heap_alloc_new w2 (.cells #[(.int .i64 (NU : Int)), (.int .i64 0), (.int .u64 0), (.slice none 0 0)] 40))
                have HGQ := Lib.hid (show qg < w2.heap.size from (Array.getElem?_eq_some_iff.1 HG2.out).1)
                obtain ⟨w3, hw3⟩ : ∃ w3, w3 = w2.alloc (.cells #[(.int .i64 (NU : Int)), (.int .i64 0), (.int .u64 0), (.slice none 0 0)] 40) := ⟨_, rfl⟩
                obtain ⟨qf, hqf⟩ : ∃ q, q = w2.heap.size := ⟨_, rfl⟩
                rw [← hw3] at HK3 HG3 HF3
                rw [← hqf] at HF3 HGQ
                have HW3 := Lib.hid hw3
                have HQF := Lib.hid (show wr.heap.size ≤ qf by rw [hqf]; exact HK2.out.size)
                have HQE := Lib.hid hqf
                clear hw3 hqf
                go_upto_region 12 with fail
                rw [← HW3.out, ← HQE.out]
                have hbg3 := box3 HG3.out
                have hbf3 := box4 HF3.out
                clear hbg
                have HGV2 := Lib.hid (HGW.out _ (HM.out.kept.trans HK3.out))
                go_wp2_with fail
                refine HGV2.out.mono ?_
                rintro e w4 ⟨rfl, hk4⟩
                have HK5 := Lib.hid ((HK3.out.trans hk4).alloc (.cells #[(.int .u64 (V2 : Int)), (.int .i64 (N2 : Int)), (.int .i64 (E2 : Int))] 56))
                have HF5 := Lib.hid ((hk4.alloc (.cells #[(.int .u64 (V2 : Int)), (.int .i64 (N2 : Int)), (.int .i64 (E2 : Int))] 56)).same HF3.out (fun x => x))
                have HH5 := Lib.hid (heap_alloc_new w4 (.cells #[(.int .u64 (V2 : Int)), (.int .i64 (N2 : Int)), (.int .i64 (E2 : Int))] 56))
                have HQ5 := Lib.hid (show qf < w4.heap.size by have := (Array.getElem?_eq_some_iff.1 HF3.out).1; have := hk4.size; omega)
                obtain ⟨w5, hw5⟩ : ∃ w5, w5 = w4.alloc (.cells #[(.int .u64 (V2 : Int)), (.int .i64 (N2 : Int)), (.int .i64 (E2 : Int))] 56) := ⟨_, rfl⟩
                obtain ⟨qh, hqh⟩ : ∃ q, q = w4.heap.size := ⟨_, rfl⟩
                rw [← hw5] at HK5 HF5 HH5
                rw [← hqh] at HH5 HQ5
                have HW5 := Lib.hid hw5
                have HQH := Lib.hid hqh
                clear hk4 hw5 hqh hbg3 hbf3
                go_upto_region 22 with fail
                rw [← HW5.out, ← HQH.out]
                have hbh := box3 HH5.out
                have hbf := box4 HF5.out
                have HBE := Lib.hid (HK5.out.same HBR.out (fun x => x))
                have hbe := box3 HBE.out
                go_wp2
                refine bodyPost_ret (v := .agg #[.slice none 0 0, .int .i64 (t : Int), .int .i64 (E2 : Int)]) ?_ rfl ?_
                · exact results_cell_row Try.results12 _ _ q0 33 _ (0, 0) _ rfl (three_set HBE.out) Try.underlying33 rfl msg_info
                · exact RDecGot.bad HF.out (three_kept (HM.out.kept.trans HK5.out) (by have := HQ0.out; omega))
              · have hE21 : E2 = 0 := by omega
                subst hE21
                have hfg : fieldW (l.drop t) = (⟨((NU : Nat) : Int), 0, V2, []⟩, N + N2, 0) := by rw [FX, if_neg hE20]
                have HU9 := Lib.hid (HUG.out _ _ hfg)
                rw [List.drop_drop] at HU9
                obtain ⟨K9, hK9⟩ : ∃ x, x = t + (N + N2) := ⟨_, rfl⟩
                rw [← hK9] at HU9
                have HK9 := Lib.hid (And.intro hK9 (And.intro (d2 rfl) d1))
                have k6 : (K : Int) + (N2 : Int) = (K9 : Int) := by have := HKK.out; omega
                have k7 : IntKind.i64.wrap (K9 : Int) = (K9 : Int) := IntWalk.i64_in _ ⟨by omega, by have := HKK.out; omega⟩
                have HOK : Hid (∀ w', FldOk w' ⟨⟨(NU : Int), 0, V2, []⟩, none, 0⟩) := Lib.hid fun w' => ⟨by unfold I64; have := HNU.out; simp only; omega, by unfold I64; simp only; omega, d4, By.ofMine (Mine.nil w' 5) (by simp)⟩
                have HSEP : Hid (([] : List Nat) ≠ [] → ∀ a : Addr, (none : Option Addr) = some a → (Value.slice a4 m c4).ownBlock ≠ some a.block ∧ 0 ≤ a.block) := Lib.hid fun h => absurd rfl h
                clear FX hE20 d1 d2 d4 hfg hK9
                go_wp2_with fail
                refine HGV.out.mono ?_
                rintro e w1 ⟨rfl, hk1⟩
                have HK2 := Lib.hid (hk1.alloc (.cells #[(.int .u64 (V : Int)), (.int .i64 (N : Int)), (.int .i64 0)] 56))
                have HG2 := Lib.hid (heap_alloc_new w1 (.cells #[(.int .u64 (V : Int)), (.int .i64 (N : Int)), (.int .i64 0)] 56))
                obtain ⟨w2, hw2⟩ : ∃ w2, w2 = w1.alloc (.cells #[(.int .u64 (V : Int)), (.int .i64 (N : Int)), (.int .i64 0)] 56) := ⟨_, rfl⟩
                obtain ⟨qg, hqg⟩ : ∃ q, q = w1.heap.size := ⟨_, rfl⟩
                rw [← hw2] at HK2 HG2
                rw [← hqg] at HG2
                have HW2 := Lib.hid hw2
                have HQG := Lib.hid hqg
                clear hk1 hw2 hqg
                go_upto_region 5 with fail
                rw [← HW2.out, ← HQG.out]
                have hbg := box3 HG2.out
                have HK3 := Lib.hid (HK2.out.alloc (.cells #[(.int .i64 (NU : Int)), (.int .i64 0), (.int .u64 0), (.slice none 0 0)] 40))
                have HG3 := Lib.hid (((Kept.refl (fun _ => False) w2).alloc (.cells #[(.int .i64 (NU : Int)), (.int .i64 0), (.int .u64 0), (.slice none 0 0)] 40)).same HG2.out (fun x => x))
                have HF3 := Lib.hid (heap_alloc_new w2 (.cells #[(.int .i64 (NU : Int)), (.int .i64 0), (.int .u64 0), (.slice none 0 0)] 40))
                have HGQ := Lib.hid (show qg < w2.heap.size from (Array.getElem?_eq_some_iff.1 HG2.out).1)
                obtain ⟨w3, hw3⟩ : ∃ w3, w3 = w2.alloc (.cells #[(.int .i64 (NU : Int)), (.int .i64 0), (.int .u64 0), (.slice none 0 0)] 40) := ⟨_, rfl⟩
                obtain ⟨qf, hqf⟩ : ∃ q, q = w2.heap.size := ⟨_, rfl⟩
                rw [← hw3] at HK3 HG3 HF3
                rw [← hqf] at HF3 HGQ
                have HW3 := Lib.hid hw3
                have HQF := Lib.hid (show wr.heap.size ≤ qf by rw [hqf]; exact HK2.out.size)
                have HQE := Lib.hid hqf
                clear hw3 hqf
                go_upto_region 12 with fail
                rw [← HW3.out, ← HQE.out]
                have hbg3 := box3 HG3.out
                have hbf3 := box4 HF3.out
                clear hbg
                have HGV2 := Lib.hid (HGW.out _ (HM.out.kept.trans HK3.out))
                go_wp2_with fail
                refine HGV2.out.mono ?_
                rintro e w4 ⟨rfl, hk4⟩
                have HK5 := Lib.hid ((HK3.out.trans hk4).alloc (.cells #[(.int .u64 (V2 : Int)), (.int .i64 (N2 : Int)), (.int .i64 0)] 56))
                have HF5 := Lib.hid ((hk4.alloc (.cells #[(.int .u64 (V2 : Int)), (.int .i64 (N2 : Int)), (.int .i64 0)] 56)).same HF3.out (fun x => x))
                have HH5 := Lib.hid (heap_alloc_new w4 (.cells #[(.int .u64 (V2 : Int)), (.int .i64 (N2 : Int)), (.int .i64 0)] 56))
                have HQ5 := Lib.hid (show qf < w4.heap.size by have := (Array.getElem?_eq_some_iff.1 HF3.out).1; have := hk4.size; omega)
                obtain ⟨w5, hw5⟩ : ∃ w5, w5 = w4.alloc (.cells #[(.int .u64 (V2 : Int)), (.int .i64 (N2 : Int)), (.int .i64 0)] 56) := ⟨_, rfl⟩
                obtain ⟨qh, hqh⟩ : ∃ q, q = w4.heap.size := ⟨_, rfl⟩
                rw [← hw5] at HK5 HF5 HH5
                rw [← hqh] at HH5 HQ5
                have HW5 := Lib.hid hw5
                have HQH := Lib.hid hqh
                clear hk4 hw5 hqh hbg3 hbf3
                go_upto_region 22 with fail
                rw [← HW5.out, ← HQH.out]
                have hbh := box3 HH5.out
                have hbf := box4 HF5.out
                go_upto_region 31 with fail
                have HK6 := Lib.hid (HK5.out.setCell (p := ⟨qf, 2, none⟩) (fun hlt => by simp only at hlt; have := HQF.out; omega) (.int .u64 (V2 : Int)))
                have HF6 := Lib.hid (four_set2 (x := .int .u64 (V2 : Int)) HF5.out)
                obtain ⟨w6, hw6⟩ : ∃ w', w' = w5.setCell ⟨qf, 2, none⟩ (.int .u64 (V2 : Int)) := ⟨_, rfl⟩
                rw [← hw6] at HK6 HF6 ⊢
                clear hw6 hbh hbf
                have HSRC : Hid (∀ (w : World), Src Try.prog 4 22 (.slice (some ⟨w.heap.size, 0, none⟩) 1 1) 1 [.int .i64 (NU : Int), .int .i64 0, .int .u64 (V2 : Int), .slice none 0 0] (w.alloc (.cells #[.int .i64 (NU : Int), .int .i64 0, .int .u64 (V2 : Int), .slice none 0 0] 40))) := Lib.hid fun w => src_oneF w ⟨⟨(NU : Int), 0, V2, []⟩, none, 0⟩
                have HC : Hid (cellsP ⟨⟨(NU : Int), 0, V2, []⟩, none, 0⟩ = [.int .i64 (NU : Int), .int .i64 0, .int .u64 (V2 : Int), .slice none 0 0]) := Lib.hid rfl
                have hbx := box4 HF6.out
                go_wp2_with (at_builtin; refine wpList_mineF rfl (.tmp 127) (.tmp 129) rfl 0 w _ _ rfl ((HM.out.on HK6.out).on ((Kept.refl _ _).alloc _)) _ ⟨⟨(NU : Int), 0, V2, []⟩, none, 0⟩ rfl (by rw [HC.out]; exact HSRC.out _) ((HOK.out _).kept ((Kept.refl _ _).alloc _)) HSEP.out (by have := HMM.out; have := HA.out; have := HT.out; have := HL.out; have := HN.out; omega) ?_; intro v7 w7 hm6 hk6; have HM6 := Lib.hid hm6; have HB6 := Lib.hid (hk6.same (((HK6.out.alloc _)).same HBR.out (fun x => x)) (fun e => HNB.out e)); clear hm6 hk6)
                go_roundg k
                case measure => omega
                case rel => exact ⟨k, K9, acc ++ [⟨⟨(NU : Int), 0, V2, []⟩, none, 0⟩], by omega, by have := HKK.out; have := HK9.out; omega, by have := HKK.out; have := HK.out; have := HK9.out; omega, by have := HKK.out; have := HA.out; have := HK9.out; simp; omega, by go_num, by have := HU9.out; unfold recsR at this ⊢; rw [List.map_append]; exact this, HM6.out, HB6.out⟩
            · subst h0
              clear h8lt hq
              have hqt : ((2 : Int) == 1) = false := by decide
              have HNB := Lib.hid (show (Value.slice a4 m c4).ownBlock ≠ some q0 from own_box HM.out.own HBR.out (by decide))
              have FX := F6 rfl
              have hgv2 := fun w' (hk : Kept (fun _ => False) w w') => HG.out w' hk K (by have := HKK.out; have := HN.out; omega)
              obtain ⟨d1, d2, _, d4⟩ := HGL.out K
              rw [HRL.out] at d1
              obtain ⟨V2, hV2⟩ : ∃ V, V = (gotW (l.drop K)).1 := ⟨_, rfl⟩
              obtain ⟨N2, hN2⟩ : ∃ V, V = (gotW (l.drop K)).2.1 := ⟨_, rfl⟩
              obtain ⟨E2, hE2⟩ : ∃ V, V = (gotW (l.drop K)).2.2 := ⟨_, rfl⟩
              rw [← hV2, ← hN2, ← hE2] at hgv2
              rw [← hN2] at d1 d2
              rw [← hE2] at d2
              rw [← hV2] at d4
              have HGW := Lib.hid hgv2
              clear hgv2
              unfold textGot at FX
              simp only [← hV2, ← hN2, ← hE2] at FX
              clear hV2 hN2 hE2 F4 F5 F6
              by_cases hE20 : E2 ≠ 0
              · rw [if_pos hE20] at FX
                simp only at FX
                rw [if_pos hE20] at FX
                have HF := Lib.hid (HUB.out E2 _ _ FX hE20)
                have he : ((E2 : Int) != 0) = true := bneT (by omega)
                clear FX hE20 d1 d2 d4
                go_wp2_with fail
                refine HGV.out.mono ?_
                rintro e w1 ⟨rfl, hk1⟩
                have HK2 := Lib.hid (hk1.alloc (.cells #[(.int .u64 (V : Int)), (.int .i64 (N : Int)), (.int .i64 0)] 56))
                have HG2 := Lib.hid (heap_alloc_new w1 (.cells #[(.int .u64 (V : Int)), (.int .i64 (N : Int)), (.int .i64 0)] 56))
                obtain ⟨w2, hw2⟩ : ∃ w2, w2 = w1.alloc (.cells #[(.int .u64 (V : Int)), (.int .i64 (N : Int)), (.int .i64 0)] 56) := ⟨_, rfl⟩
                obtain ⟨qg, hqg⟩ : ∃ q, q = w1.heap.size := ⟨_, rfl⟩
                rw [← hw2] at HK2 HG2
                rw [← hqg] at HG2
                have HW2 := Lib.hid hw2
                have HQG := Lib.hid hqg
                clear hk1 hw2 hqg
                go_upto_region 5 with fail
                rw [← HW2.out, ← HQG.out]
                have hbg := box3 HG2.out
                have HK3 := Lib.hid (HK2.out.alloc (.cells #[(.int .i64 (NU : Int)), (.int .i64 2), (.int .u64 0), (.slice none 0 0)] 40))
                have HG3 := Lib.hid (((Kept.refl (fun _ => False) w2).alloc (.cells #[(.int .i64 (NU : Int)), (.int .i64 2), (.int .u64 0), (.slice none 0 0)] 40)).same HG2.out (fun x => x))
                have HF3 := Lib.hid (heap_alloc_new w2 (.cells #[(.int .i64 (NU : Int)), (.int .i64 2), (.int .u64 0), (.slice none 0 0)] 40))
                have HGQ := Lib.hid (show qg < w2.heap.size from (Array.getElem?_eq_some_iff.1 HG2.out).1)
                obtain ⟨w3, hw3⟩ : ∃ w3, w3 = w2.alloc (.cells #[(.int .i64 (NU : Int)), (.int .i64 2), (.int .u64 0), (.slice none 0 0)] 40) := ⟨_, rfl⟩
                obtain ⟨qf, hqf⟩ : ∃ q, q = w2.heap.size := ⟨_, rfl⟩
                rw [← hw3] at HK3 HG3 HF3
                rw [← hqf] at HF3 HGQ
                have HW3 := Lib.hid hw3
                have HQF := Lib.hid (show wr.heap.size ≤ qf by rw [hqf]; exact HK2.out.size)
                have HQE := Lib.hid hqf
                clear hw3 hqf
                go_upto_region 12 with fail
                rw [← HW3.out, ← HQE.out]
                have hbg3 := box3 HG3.out
                have hbf3 := box4 HF3.out
                clear hbg
                have HGV2 := Lib.hid (HGW.out _ (HM.out.kept.trans HK3.out))
                go_wp2_with fail
                refine HGV2.out.mono ?_
                rintro e w4 ⟨rfl, hk4⟩
                have HK5 := Lib.hid ((HK3.out.trans hk4).alloc (.cells #[(.int .u64 (V2 : Int)), (.int .i64 (N2 : Int)), (.int .i64 (E2 : Int))] 56))
                have HF5 := Lib.hid ((hk4.alloc (.cells #[(.int .u64 (V2 : Int)), (.int .i64 (N2 : Int)), (.int .i64 (E2 : Int))] 56)).same HF3.out (fun x => x))
                have HH5 := Lib.hid (heap_alloc_new w4 (.cells #[(.int .u64 (V2 : Int)), (.int .i64 (N2 : Int)), (.int .i64 (E2 : Int))] 56))
                have HQ5 := Lib.hid (show qf < w4.heap.size by have := (Array.getElem?_eq_some_iff.1 HF3.out).1; have := hk4.size; omega)
                obtain ⟨w5, hw5⟩ : ∃ w5, w5 = w4.alloc (.cells #[(.int .u64 (V2 : Int)), (.int .i64 (N2 : Int)), (.int .i64 (E2 : Int))] 56) := ⟨_, rfl⟩
                obtain ⟨qh, hqh⟩ : ∃ q, q = w4.heap.size := ⟨_, rfl⟩
                rw [← hw5] at HK5 HF5 HH5
                rw [← hqh] at HH5 HQ5
                have HW5 := Lib.hid hw5
                have HQH := Lib.hid hqh
                clear hk4 hw5 hqh hbg3 hbf3
                go_upto_region 22 with fail
                rw [← HW5.out, ← HQH.out]
                have hbh := box3 HH5.out
                have hbf := box4 HF5.out
                have HBE := Lib.hid (HK5.out.same HBR.out (fun x => x))
                have hbe := box3 HBE.out
                go_wp2
                refine bodyPost_ret (v := .agg #[.slice none 0 0, .int .i64 (t : Int), .int .i64 (E2 : Int)]) ?_ rfl ?_
                · exact results_cell_row Try.results12 _ _ q0 33 _ (0, 0) _ rfl (three_set HBE.out) Try.underlying33 rfl msg_info
                · exact RDecGot.bad HF.out (three_kept (HM.out.kept.trans HK5.out) (by have := HQ0.out; omega))
              · have hE21 : E2 = 0 := by omega
                subst hE21
                rw [if_neg hE20] at FX
                obtain ⟨K2, hK2⟩ : ∃ x, x = K + N2 := ⟨_, rfl⟩
                obtain ⟨R2, hR2⟩ : ∃ x, x = n - K2 := ⟨_, rfl⟩
                have HK2K := Lib.hid (And.intro hK2 (And.intro hR2 (And.intro (d2 rfl) d1)))
                have k6 : (K : Int) + (N2 : Int) = (K2 : Int) := by omega
                have k7 : IntKind.i64.wrap (K2 : Int) = (K2 : Int) := IntWalk.i64_in _ ⟨by omega, by have := HKK.out; omega⟩
                have k8 : (n : Int) - (K2 : Int) = (R2 : Int) := by have := HKK.out; omega
                have k9 : IntKind.i64.wrap (R2 : Int) = (R2 : Int) := IntWalk.i64_in _ ⟨by omega, by omega⟩
                have k10 : IntKind.u64.wrap (R2 : Int) = (R2 : Int) := by rw [IntKind.wrap_u64]; omega
                have hr2 : ((l.drop K).drop N2).length = R2 := by rw [List.drop_drop, List.length_drop, ← HN.out, ← hK2, hR2]
                rw [hr2] at FX
                clear hK2 hR2 d1 d2
                by_cases hlt : R2 < V2
                · rw [if_pos hlt] at FX
                  simp only at FX
                  rw [if_pos (by simp)] at FX
                  have HF := Lib.hid (HUB.out 2 _ _ FX (by decide))
                  have he : (R2 : Int) < (V2 : Int) := by omega
                  clear FX hE20 d4 hlt hr2
                  go_wp2_with fail
                  refine HGV.out.mono ?_
                  rintro e w1 ⟨rfl, hk1⟩
                  have HK2 := Lib.hid (hk1.alloc (.cells #[(.int .u64 (V : Int)), (.int .i64 (N : Int)), (.int .i64 0)] 56))
                  have HG2 := Lib.hid (heap_alloc_new w1 (.cells #[(.int .u64 (V : Int)), (.int .i64 (N : Int)), (.int .i64 0)] 56))
                  obtain ⟨w2, hw2⟩ : ∃ w2, w2 = w1.alloc (.cells #[(.int .u64 (V : Int)), (.int .i64 (N : Int)), (.int .i64 0)] 56) := ⟨_, rfl⟩
                  obtain ⟨qg, hqg⟩ : ∃ q, q = w1.heap.size := ⟨_, rfl⟩
                  rw [← hw2] at HK2 HG2
                  rw [← hqg] at HG2
                  have HW2 := Lib.hid hw2
                  have HQG := Lib.hid hqg
                  clear hk1 hw2 hqg
                  go_upto_region 5 with fail
                  rw [← HW2.out, ← HQG.out]
                  have hbg := box3 HG2.out
                  have HK3 := Lib.hid (HK2.out.alloc (.cells #[(.int .i64 (NU : Int)), (.int .i64 2), (.int .u64 0), (.slice none 0 0)] 40))
                  have HG3 := Lib.hid (((Kept.refl (fun _ => False) w2).alloc (.cells #[(.int .i64 (NU : Int)), (.int .i64 2), (.int .u64 0), (.slice none 0 0)] 40)).same HG2.out (fun x => x))
                  have HF3 := Lib.hid (heap_alloc_new w2 (.cells #[(.int .i64 (NU : Int)), (.int .i64 2), (.int .u64 0), (.slice none 0 0)] 40))
                  have HGQ := Lib.hid (show qg < w2.heap.size from (Array.getElem?_eq_some_iff.1 HG2.out).1)
                  obtain ⟨w3, hw3⟩ : ∃ w3, w3 = w2.alloc (.cells #[(.int .i64 (NU : Int)), (.int .i64 2), (.int .u64 0), (.slice none 0 0)] 40) := ⟨_, rfl⟩
                  obtain ⟨qf, hqf⟩ : ∃ q, q = w2.heap.size := ⟨_, rfl⟩
                  rw [← hw3] at HK3 HG3 HF3
                  rw [← hqf] at HF3 HGQ
                  have HW3 := Lib.hid hw3
                  have HQF := Lib.hid (show wr.heap.size ≤ qf by rw [hqf]; exact HK2.out.size)
                  have HQE := Lib.hid hqf
                  clear hw3 hqf
                  go_upto_region 12 with fail
                  rw [← HW3.out, ← HQE.out]
                  have hbg3 := box3 HG3.out
                  have hbf3 := box4 HF3.out
                  clear hbg
                  have HGV2 := Lib.hid (HGW.out _ (HM.out.kept.trans HK3.out))
                  go_wp2_with fail
                  refine HGV2.out.mono ?_
                  rintro e w4 ⟨rfl, hk4⟩
                  have HK5 := Lib.hid ((HK3.out.trans hk4).alloc (.cells #[(.int .u64 (V2 : Int)), (.int .i64 (N2 : Int)), (.int .i64 0)] 56))
                  have HF5 := Lib.hid ((hk4.alloc (.cells #[(.int .u64 (V2 : Int)), (.int .i64 (N2 : Int)), (.int .i64 0)] 56)).same HF3.out (fun x => x))
                  have HH5 := Lib.hid (heap_alloc_new w4 (.cells #[(.int .u64 (V2 : Int)), (.int .i64 (N2 : Int)), (.int .i64 0)] 56))
                  have HQ5 := Lib.hid (show qf < w4.heap.size by have := (Array.getElem?_eq_some_iff.1 HF3.out).1; have := hk4.size; omega)
                  obtain ⟨w5, hw5⟩ : ∃ w5, w5 = w4.alloc (.cells #[(.int .u64 (V2 : Int)), (.int .i64 (N2 : Int)), (.int .i64 0)] 56) := ⟨_, rfl⟩
                  obtain ⟨qh, hqh⟩ : ∃ q, q = w4.heap.size := ⟨_, rfl⟩
                  rw [← hw5] at HK5 HF5 HH5
                  rw [← hqh] at HH5 HQ5
                  have HW5 := Lib.hid hw5
                  have HQH := Lib.hid hqh
                  clear hk4 hw5 hqh hbg3 hbf3
                  go_upto_region 22 with fail
                  rw [← HW5.out, ← HQH.out]
                  have hbh := box3 HH5.out
                  have hbf := box4 HF5.out
                  go_upto_region 28 with fail
                  clear hbh hbf
                  have HBE := Lib.hid (HK5.out.same HBR.out (fun x => x))
                  have hbe := box3 HBE.out
                  go_wp2
                  refine bodyPost_ret (v := .agg #[.slice none 0 0, .int .i64 (t : Int), .int .i64 2]) ?_ rfl ?_
                  · exact results_cell_row Try.results12 _ _ q0 33 _ (0, 0) _ rfl (three_set HBE.out) Try.underlying33 rfl msg_info
                  · exact RDecGot.bad HF.out (three_kept (HM.out.kept.trans HK5.out) (by have := HQ0.out; omega))
                · rw [if_neg hlt] at FX
                  simp only at FX
                  rw [if_neg (by simp)] at FX
                  have he : ¬ (R2 : Int) < (V2 : Int) := by omega
                  obtain ⟨BL, hBL⟩ : ∃ x, x = ((l.drop K).drop N2).take V2 := ⟨_, rfl⟩
                  rw [← hBL] at FX
                  have HU9 := Lib.hid (HUG.out _ _ FX)
                  rw [List.drop_drop] at HU9
                  obtain ⟨M2, hM2⟩ : ∃ x, x = K2 + V2 := ⟨_, rfl⟩
                  have hKM : t + (N + (N2 + V2)) = M2 := by have := HKK.out; have := HK2K.out; omega
                  rw [hKM] at HU9
                  have j1 : (K2 : Int) + (V2 : Int) = (M2 : Int) := by omega
                  have hMn : M2 ≤ n := by have := HKK.out; have := HK2K.out; omega
                  have j2 : IntKind.i64.wrap (M2 : Int) = (M2 : Int) := IntWalk.i64_in _ ⟨by omega, by omega⟩
                  have j3 : IntKind.i64.wrap (V2 : Int) = (V2 : Int) := IntWalk.i64_in _ ⟨by omega, by omega⟩
                  have hcc := HB.out.cap
                  rw [← HN.out] at hcc
                  have hcut := HCUT.out K2 M2 (by omega) (by omega)
                  have hKl : K2 ≤ l.length := by have := HN.out; omega
                  have hby := (HB.out.cutL hKl).takeH (k := V2) (by rw [List.length_drop, ← HN.out]; have := HK2K.out; omega)
                  rw [show l.drop K2 = (l.drop K).drop N2 by rw [List.drop_drop, ← HK2K.out.1], ← hBL] at hby
                  obtain ⟨AA, hAA⟩ : ∃ x, x = (if c = K2 then ao else ao.map (·.add K2)) := ⟨_, rfl⟩
                  rw [← hAA] at hby hcut
                  rw [show M2 - K2 = V2 by omega] at hcut
                  have hbl : BL.length = V2 := by rw [hBL, List.length_take, hr2]; omega
                  obtain ⟨CC, hCC⟩ : ∃ x, x = c - K2 := ⟨_, rfl⟩
                  rw [← hCC] at hby hcut
                  have HBY := Lib.hid hby
                  have HBL := Lib.hid hbl
                  have HM2 := Lib.hid (And.intro hM2 hMn)
                  have HOK : Hid (∀ w', Kept (fun _ => False) w w' → FldOk w' ⟨⟨(NU : Int), 2, 0, BL⟩, AA, CC⟩) := Lib.hid fun w' k => ⟨by unfold I64; have := HNU.out; simp only; omega, by unfold I64; simp only; omega, by simp, hby.kept k⟩
                  have HSEP : Hid (BL ≠ [] → ∀ a : Addr, AA = some a → (Value.slice a4 m c4).ownBlock ≠ some a.block ∧ 0 ≤ a.block) := Lib.hid fun h a ha => ⟨fun e => by
                    have h1 := (ownsRow_lt HM.out.own e).2
                    have h2 := HBY.out
                    rw [ha] at h2
                    have h3 := h2.blt h
                    omega, Nat.zero_le _⟩
                  have HCU := Lib.hid hcut
                  clear FX hE20 d4 hlt hr2 hM2 hKM hMn hcc hcut hKl hBL hby hAA hbl hCC
                  go_wp2_with fail
                  refine HGV.out.mono ?_
                  rintro e w1 ⟨rfl, hk1⟩
                  have HK2 := Lib.hid (hk1.alloc (.cells #[(.int .u64 (V : Int)), (.int .i64 (N : Int)), (.int .i64 0)] 56))
                  have HG2 := Lib.hid (heap_alloc_new w1 (.cells #[(.int .u64 (V : Int)), (.int .i64 (N : Int)), (.int .i64 0)] 56))
                  obtain ⟨w2, hw2⟩ : ∃ w2, w2 = w1.alloc (.cells #[(.int .u64 (V : Int)), (.int .i64 (N : Int)), (.int .i64 0)] 56) := ⟨_, rfl⟩
                  obtain ⟨qg, hqg⟩ : ∃ q, q = w1.heap.size := ⟨_, rfl⟩
                  rw [← hw2] at HK2 HG2
                  rw [← hqg] at HG2
                  have HW2 := Lib.hid hw2
                  have HQG := Lib.hid hqg
                  clear hk1 hw2 hqg
                  go_upto_region 5 with fail
                  rw [← HW2.out, ← HQG.out]
                  have hbg := box3 HG2.out
                  have HK3 := Lib.hid (HK2.out.alloc (.cells #[(.int .i64 (NU : Int)), (.int .i64 2), (.int .u64 0), (.slice none 0 0)] 40))
                  have HG3 := Lib.hid (((Kept.refl (fun _ => False) w2).alloc (.cells #[(.int .i64 (NU : Int)), (.int .i64 2), (.int .u64 0), (.slice none 0 0)] 40)).same HG2.out (fun x => x))
                  have HF3 := Lib.hid (heap_alloc_new w2 (.cells #[(.int .i64 (NU : Int)), (.int .i64 2), (.int .u64 0), (.slice none 0 0)] 40))
                  have HGQ := Lib.hid (show qg < w2.heap.size from (Array.getElem?_eq_some_iff.1 HG2.out).1)
                  obtain ⟨w3, hw3⟩ : ∃ w3, w3 = w2.alloc (.cells #[(.int .i64 (NU : Int)), (.int .i64 2), (.int .u64 0), (.slice none 0 0)] 40) := ⟨_, rfl⟩
                  obtain ⟨qf, hqf⟩ : ∃ q, q = w2.heap.size := ⟨_, rfl⟩
                  rw [← hw3] at HK3 HG3 HF3
                  rw [← hqf] at HF3 HGQ
                  have HW3 := Lib.hid hw3
                  have HQF := Lib.hid (show wr.heap.size ≤ qf by rw [hqf]; exact HK2.out.size)
                  have HQE := Lib.hid hqf
                  clear hw3 hqf
                  go_upto_region 12 with fail
                  rw [← HW3.out, ← HQE.out]
                  have hbg3 := box3 HG3.out
                  have hbf3 := box4 HF3.out
                  clear hbg
                  have HGV2 := Lib.hid (HGW.out _ (HM.out.kept.trans HK3.out))
                  go_wp2_with fail
                  refine HGV2.out.mono ?_
                  rintro e w4 ⟨rfl, hk4⟩
                  have HK5 := Lib.hid ((HK3.out.trans hk4).alloc (.cells #[(.int .u64 (V2 : Int)), (.int .i64 (N2 : Int)), (.int .i64 0)] 56))
                  have HF5 := Lib.hid ((hk4.alloc (.cells #[(.int .u64 (V2 : Int)), (.int .i64 (N2 : Int)), (.int .i64 0)] 56)).same HF3.out (fun x => x))
                  have HH5 := Lib.hid (heap_alloc_new w4 (.cells #[(.int .u64 (V2 : Int)), (.int .i64 (N2 : Int)), (.int .i64 0)] 56))
                  have HQ5 := Lib.hid (show qf < w4.heap.size by have := (Array.getElem?_eq_some_iff.1 HF3.out).1; have := hk4.size; omega)
                  obtain ⟨w5, hw5⟩ : ∃ w5, w5 = w4.alloc (.cells #[(.int .u64 (V2 : Int)), (.int .i64 (N2 : Int)), (.int .i64 0)] 56) := ⟨_, rfl⟩
                  obtain ⟨qh, hqh⟩ : ∃ q, q = w4.heap.size := ⟨_, rfl⟩
                  rw [← hw5] at HK5 HF5 HH5
                  rw [← hqh] at HH5 HQ5
                  have HW5 := Lib.hid hw5
                  have HQH := Lib.hid hqh
                  clear hk4 hw5 hqh hbg3 hbf3
                  go_upto_region 22 with fail
                  rw [← HW5.out, ← HQH.out]
                  have hbh := box3 HH5.out
                  have hbf := box4 HF5.out
                  have hcut := HCU.out
                  go_upto_region 30 with fail
                  have HK6 := Lib.hid (HK5.out.setCell (p := ⟨qf, 3, none⟩) (fun hlt => by simp only at hlt; have := HQF.out; omega) (.slice AA V2 CC))
                  have HF6 := Lib.hid (four_set3 (x := .slice AA V2 CC) HF5.out)
                  have HH6 := Lib.hid ((cell_other (w := w5) (g := qf) (k := qh) (o := 3) (x := .slice AA V2 CC) (by have := HQ5.out; omega)).trans HH5.out)
                  obtain ⟨w6, hw6⟩ : ∃ w', w' = w5.setCell ⟨qf, 3, none⟩ (.slice AA V2 CC) := ⟨_, rfl⟩
                  rw [← hw6] at HK6 HF6 HH6 ⊢
                  clear hw6 hbh hbf hcut
                  have hbh := box3 HH6.out
                  skip
                  have HSRC : Hid (∀ (w : World), Src Try.prog 4 22 (.slice (some ⟨w.heap.size, 0, none⟩) 1 1) 1 [.int .i64 (NU : Int), .int .i64 2, .int .u64 0, .slice AA V2 CC] (w.alloc (.cells #[.int .i64 (NU : Int), .int .i64 2, .int .u64 0, .slice AA V2 CC] 40))) := Lib.hid fun w => by have := src_oneF w ⟨⟨(NU : Int), 2, 0, BL⟩, AA, CC⟩; unfold cellsP at this; rw [show (⟨⟨(NU : Int), 2, 0, BL⟩, AA, CC⟩ : PR).r.b.length = V2 from HBL.out] at this; exact this
                  have HC : Hid (cellsP ⟨⟨(NU : Int), 2, 0, BL⟩, AA, CC⟩ = [.int .i64 (NU : Int), .int .i64 2, .int .u64 0, .slice AA V2 CC]) := Lib.hid (by unfold cellsP; rw [show (⟨⟨(NU : Int), 2, 0, BL⟩, AA, CC⟩ : PR).r.b.length = V2 from HBL.out]; rfl)
                  have hbx := box4 HF6.out
                  go_wp2_with (at_builtin; refine wpList_mineF rfl (.tmp 127) (.tmp 129) rfl 0 w _ _ rfl ((HM.out.on HK6.out).on ((Kept.refl _ _).alloc _)) _ ⟨⟨(NU : Int), 2, 0, BL⟩, AA, CC⟩ rfl (by rw [HC.out]; exact HSRC.out _) ((HOK.out _ (HM.out.kept.trans HK6.out)).kept ((Kept.refl _ _).alloc _)) HSEP.out (by have := HMM.out; have := HA.out; have := HT.out; have := HL.out; have := HN.out; omega) ?_; intro v7 w7 hm6 hk6; have HM6 := Lib.hid hm6; have HB6 := Lib.hid (hk6.same (((HK6.out.alloc _)).same HBR.out (fun x => x)) (fun e => HNB.out e)); clear hm6 hk6)
                  go_roundg k
                  case measure => omega
                  case rel => exact ⟨k, M2, acc ++ [⟨⟨(NU : Int), 2, 0, BL⟩, AA, CC⟩], by omega, by have := HKK.out; have := HM2.out; have := HK2K.out; omega, by have := HKK.out; have := HK.out; have := HM2.out; have := HK2K.out; omega, by have := HKK.out; have := HA.out; have := HM2.out; have := HK2K.out; simp; omega, by go_num, by have := HU9.out; unfold recsR at this ⊢; rw [List.map_append]; exact this, HM6.out, HB6.out⟩
    · have htn2 : t = n := by omega
      have HUU := Lib.hid (show recsR acc = R ∧ 0 = T ∧ 0 = E by
        have h := HU.out
        have h0 : (l.drop t).length = 0 := by rw [List.length_drop]; have := HN.out; omega
        cases k with
        | zero => simp only [decA] at h; injection h with h1 h2; injection h2 with h2 h3; exact ⟨h1, h2, h3⟩
        | succ k => unfold decA at h; rw [if_pos h0] at h; injection h with h1 h2; injection h2 with h2 h3; exact ⟨h1, h2, h3⟩)
      subst htn2
      clear hd htn hk
      have hbe := box3 HBR.out
      go_wp2
      refine bodyPost_ret (v := .agg #[.slice a4 m c4, .int .i64 0, .int .i64 0]) ?_ rfl ?_
      · exact results_cell_row Try.results12 _ _ q0 33 _ (0, 0) _ rfl (three_set HBR.out) Try.underlying33 rfl msg_info
      · obtain ⟨h1, rfl, rfl⟩ := HUU.out
        have hm := HM.out
        rw [HMM.out] at hm ⊢
        have hk3 : Kept (fun k => k = q0) wr (((wr.setCell ⟨q0, 0, none⟩ (.slice a4 acc.length c4)).setCell ⟨q0, 1, none⟩ (.int .i64 0)).setCell ⟨q0, 2, none⟩ (.int .i64 0)) := (((Kept.refl (fun k => k = q0) wr).setCell (p := ⟨q0, 0, none⟩) (fun _ => rfl) _).setCell (p := ⟨q0, 1, none⟩) (fun _ => rfl) _).setCell (p := ⟨q0, 2, none⟩) (fun _ => rfl) _
        refine ⟨acc, a4, c4, h1, rfl, hm.at_.keptS hk3 (fun a ha _ e => ?_) (fun p hp h0 a ha e => ?_), three_kept hm.kept (by have := HQ0.out; omega)⟩
        · subst ha
          exact own_box (k := a.block) hm.own (by rw [e]; exact HBR.out) (by decide) rfl
        · have hby := (hm.ok p hp).by_
          rw [ha] at hby
          obtain ⟨g, off, e1, hc⟩ := hby.at_.elem (bys_get (j := 0) (by cases hp0 : p.r.b with | nil => exact absurd hp0 h0 | cons => simp))
          injection e1 with e1
          subst e1
          simp only at e
          subst e
          exact box_no_byte HBR.out hc
end Go.Proofs.Ytdgpeganmgcjiaa
