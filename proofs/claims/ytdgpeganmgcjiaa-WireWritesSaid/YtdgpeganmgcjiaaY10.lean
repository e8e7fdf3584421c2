/- package wire: Unpacked, getFixed, getText. -/
import Derived.Test.YtdgpeganmgcjiaaY9
namespace Go.Proofs.Ytdgpeganmgcjiaa
open Go.RowKit
attribute [local go_sem ↓] Go.wp_at_zero Go.wp_at_succ

/-- Numbers that stand one behind the other, behind those that were read; an error. -/
def unpA : Nat → List Nat → List Nat → List Nat × Nat
  | 0, acc, _ => (acc, 0)
  | k + 1, acc, l => if l.length = 0 then (acc, 0) else if (gotW l).2.2 ≠ 0 then ([], (gotW l).2.2) else unpA k (acc ++ [(gotW l).1]) (l.drop (gotW l).2.1)
def unpW (l : List Nat) : List Nat × Nat := unpA l.length [] l
theorem unpA_put (m : List Nat) (hm : ∀ x ∈ m, x < 18446744073709551616) (k : Nat) (acc : List Nat) (hk : (packW m).length ≤ k) : unpA k acc (packW m) = (acc ++ m, 0) := by
  induction m generalizing k acc with
  | nil => cases k <;> simp [unpA, packW]
  | cons v m ih =>
    have h1 := varW_le v
    have e : packW (v :: m) = varW v ++ packW m := by unfold packW; rw [List.flatMap_cons]
    rw [e] at hk ⊢
    rw [List.length_append] at hk
    cases k with
    | zero => omega
    | succ k =>
      have hp := gotW_put v (packW m) (hm v (List.mem_cons_self ..))
      unfold unpA
      rw [if_neg (by rw [List.length_append]; omega), hp, if_neg (by simp), List.drop_left, ih (fun x hx => hm x (List.mem_cons_of_mem _ hx)) k _ (by omega)]
      simp
theorem unpW_put (m : List Nat) (hm : ∀ x ∈ m, x < 18446744073709551616) : unpW (packW m) = (m, 0) := by
  unfold unpW; rw [unpA_put m hm _ _ (Nat.le_refl _)]; rfl
theorem unpA_got (k : Nat) (acc l : List Nat) (hk : l.length ≤ k) (hb : ∀ x ∈ l, x < 256) :
    ((unpA k acc l).2 ≠ 0 → (unpA k acc l).1 = []) ∧ ((unpA k acc l).2 = 0 → ∃ m, (unpA k acc l).1 = acc ++ m ∧ packW m = l ∧ m.length ≤ l.length ∧ ∀ x ∈ m, x < 18446744073709551616) := by
  induction k generalizing acc l with
  | zero =>
    have : l = [] := List.eq_nil_of_length_eq_zero (by omega)
    subst this
    exact ⟨fun h => absurd rfl h, fun _ => ⟨[], by simp [unpA], rfl, by simp, by simp⟩⟩
  | succ k ih =>
    unfold unpA
    by_cases h0 : l.length = 0
    · rw [if_pos h0]
      have : l = [] := List.eq_nil_of_length_eq_zero h0
      subst this
      exact ⟨fun h => absurd rfl h, fun _ => ⟨[], by simp, rfl, by simp, by simp⟩⟩
    · rw [if_neg h0]
      by_cases h1 : (gotW l).2.2 ≠ 0
      · rw [if_pos h1]; exact ⟨fun _ => rfl, fun h => absurd h h1⟩
      · rw [if_neg h1]
        obtain ⟨b1, b2, b3, b4⟩ := gotW_le l hb
        have hb2 := b2 (by omega)
        obtain ⟨i1, i2⟩ := ih (acc ++ [(gotW l).1]) (l.drop (gotW l).2.1) (by rw [List.length_drop]; omega) (fun x hx => hb x (List.mem_of_mem_drop hx))
        refine ⟨i1, fun h => ?_⟩
        obtain ⟨m, i3, i4, i5, i6⟩ := i2 h
        rw [List.length_drop] at i5
        have hv := (varW_got l hb (gotW l).1 (gotW l).2.1 (by rw [show (0 : Nat) = (gotW l).2.2 by omega])).2.1
        refine ⟨(gotW l).1 :: m, by rw [i3, List.append_assoc]; rfl, ?_, by rw [List.length_cons]; omega, fun x hx => ?_⟩
        · unfold packW at i4 ⊢
          rw [List.flatMap_cons, i4, hv, List.take_append_drop]
        · rcases List.mem_cons.1 hx with rfl | hx
          · exact b4
          · exact i6 x hx

theorem Try.infoU64 : (Try.prog.info? 38).map (fun i => (i.zero, i.size, i.bytes)) = some (some (.int .u64 0), 1, 8) := by kernel_rfl
theorem src_one64 (w : World) (u : Value) (hu : u.oneCell' = true) : Src Try.prog 1 36 (.slice (some ⟨w.heap.size, 0, none⟩) 1 1) ([u] : List Value).length [u] (w.alloc (.cells #[u] 38)) := src_one w Try.underlying36 u hu
theorem wpList_mine64 {ops : Array Oper} {rest : List Oper} {o : Oper} {a : Act} {Q : Exit → Act → World → Prop} {w : World} (hgd : o.guard = none) (s x : Operand)
    (ho : o.op = .call { callee := .builtin .append, args := #[s, x], argTypes := #[36, 36] })
    (W : World) (v : Value) (xs : List Value) (hv : a.eval s = v) (hm : Mine W w 38 v xs)
    (y : Value) (news : List Value) (hy : a.eval x = y) (hs : Src Try.prog 1 36 y news.length news w)
    (hl : xs.length + news.length ≤ 1000000000000)
    (h : ∀ v' w', Mine W w' 38 v' (xs ++ news) → wpList Try.prog ops Q rest (a.put o.dst v') w') : wpList Try.prog ops Q (o :: rest) a w := by
  obtain ⟨iI, hiI, hzI0, hzI1, hzI2⟩ := info_parts Try.infoU64
  exact wpList_mine hgd s x _ _ ho 38 iI (.int .u64 0) 8 Try.underlying36 hiI hzI0 hzI1 hzI2 rfl (by omega) W v xs hv hm y news hy hs hl h

set_option maxHeartbeats 2000000 in
set_option maxRecDepth 100000 in
theorem wUnpacked_any (ao : Option Addr) (c : Nat) (l : List Nat) (w : World) (hb : By w ao c l) (hl : l.length ≤ 100000) (R : List Nat) (E : Nat) (hR : unpW l = (R, E)) :
    Calls Try.prog 17 #[.slice ao l.length c] w fun e w' => ∃ a c', e = .returned (.tuple #[.slice a R.length c', .int .i64 (E : Int)]) ∧ Mine w w' 38 (.slice a R.length c') (uvals R) := by
  have HB := Lib.hid hb
  have HL := Lib.hid hl
  obtain ⟨n, hn⟩ : ∃ n, n = l.length := ⟨_, rfl⟩
  have HN := Lib.hid hn
  have HRR : Hid (unpA n [] l = (R, E)) := Lib.hid (by rw [hn]; exact hR)
  have hl9 : (n : Int) ≤ 100000 := by omega
  have HG := Lib.hid fun (w' : World) (hk : Kept (fun _ => False) w w') (t : Nat) (ht : t ≤ l.length) => getVar_any ao c l w' (hb.kept hk) (by omega) t ht (gotW (l.drop t)).1 (gotW (l.drop t)).2.1 (gotW (l.drop t)).2.2 rfl
  have HGL := Lib.hid fun (t : Nat) => gotW_le (l.drop t) (fun x hx => hb.lt x (List.mem_of_mem_drop hx))
  rw [← hn] at HG ⊢
  clear hb hl hn hR
  go_enter Try.func17, Try.ntmps17
  go_wp2
  go_loopg [4, 5] n (fun x s4 s5 wr => ∃ (k t : Nat) (acc : List Nat), x = 0 + k ∧ t ≤ n ∧ n - t ≤ k ∧ acc.length ≤ t ∧ s5 = .int .i64 t ∧ unpA k acc (l.drop t) = (R, E) ∧ Mine w wr 38 s4 (uvals acc))
  case atStart => exact ⟨n, 0, [], by omega, Nat.zero_le _, by omega, by simp, rfl, by simpa using HRR.out, Mine.nil _ _⟩
  case round =>
    obtain ⟨k, t, acc, rfl, htn, hk, hacc, rfl, hu, hm⟩ := hrel
    obtain ⟨a4, c4, e4⟩ := hm.slice
    rw [uvals_length] at e4
    subst e4
    have HM := Lib.hid hm
    have HU := Lib.hid hu
    have HA := Lib.hid hacc
    have HT := Lib.hid htn
    have HK := Lib.hid hk
    obtain ⟨m, hmm⟩ : ∃ m, m = acc.length := ⟨_, rfl⟩
    have HMM := Lib.hid hmm
    rw [← hmm] at HM ⊢
    clear hmm hu hm hacc
    by_cases hd : t < n
    · obtain ⟨k, rfl⟩ : ∃ k', k = k' + 1 := ⟨k - 1, by omega⟩
      have hgv := HG.out wr HM.out.kept t (by have := HN.out; omega)
      have hgl := HGL.out t
      have hU := HU.out
      unfold unpA at hU
      rw [if_neg (by rw [List.length_drop]; have := HN.out; omega)] at hU
      rw [List.length_drop, ← HN.out] at hgl
      have hdd : ∀ x, (l.drop t).drop x = l.drop (t + x) := fun x => by rw [List.drop_drop]
      rw [hdd] at hU
      obtain ⟨V, hV⟩ : ∃ V, V = (gotW (l.drop t)).1 := ⟨_, rfl⟩
      obtain ⟨N, hN⟩ : ∃ V, V = (gotW (l.drop t)).2.1 := ⟨_, rfl⟩
      obtain ⟨F, hF⟩ : ∃ V, V = (gotW (l.drop t)).2.2 := ⟨_, rfl⟩
      rw [← hV, ← hN, ← hF] at hgv hgl
      rw [← hV, ← hN, ← hF] at hU
      have HGV := Lib.hid hgv
      have HGL2 := Lib.hid hgl
      have hdi : (t : Int) < (n : Int) := by omega
      have hdi0 : (0 : Int) ≤ (t : Int) := by omega
      have HD := Lib.hid hd
      clear hV hN hF hgv hdd htn hk
      by_cases hF0 : F ≠ 0
      · rw [if_pos hF0] at hU
        have hq : ((F : Int) != 0) = true := bneT (by omega)
        have hq2 : ((F : Int) == 0) = false := beqF (by omega)
        have HUU := Lib.hid hU
        clear hU hF0 hd hgl
        go_wp2_with (go_at_call 18; refine HGV.out.mono ?_; rintro e w' ⟨rfl, rfl⟩)
        go_ret2
        have h := HUU.out
        injection h with h1 h2
        subst h1 h2
        exact ⟨none, 0, rfl, World.ownsRow_nil _ _ _ _, HM.out.kept⟩
      · rw [if_neg hF0] at hU
        have hF1 : F = 0 := by omega
        subst hF1
        have hN1 := hgl.2.1 rfl
        have hN2 := hgl.1
        have s1 : (t : Int) + (N : Int) ≤ 100000 := by omega
        have HUU := Lib.hid hU
        have HNN := Lib.hid (And.intro hN1 hN2)
        clear hU hF0 hd hgl hN1 hN2
        go_wp2_with (first
          | (go_at_call 18; refine HGV.out.mono ?_; rintro e w' ⟨rfl, rfl⟩)
          | (at_builtin; refine wpList_mine64 rfl (.tmp 23) (.tmp 25) rfl w _ (uvals acc) rfl (HM.out.alloc _) _ _ rfl (src_one64 wr (.int .u64 (V : Int)) rfl) (by rw [uvals_length]; have := HA.out; have := HT.out; simp; omega) ?_; intro v6 w6 hm6; have HM6 := Lib.hid hm6; clear hm6))
        go_roundg k
        case measure => omega
        case rel => exact ⟨k, t + N, acc ++ [V], by omega, by have := HNN.out; have := HD.out; omega, by have := HNN.out; have := HK.out; omega, by have := HNN.out; have := HA.out; simp; omega, by go_num, HUU.out, by have := HM6.out; rw [uvals, List.map_append]; exact this⟩
    · have htn2 : t = n := by omega
      have HUU := Lib.hid (show acc = R ∧ 0 = E by
        have h := HU.out
        have h0 : (l.drop t).length = 0 := by rw [List.length_drop]; have := HN.out; omega
        cases k with
        | zero => simp only [unpA] at h; injection h with h1 h2; exact ⟨h1, h2⟩
        | succ k => unfold unpA at h; rw [if_pos h0] at h; injection h with h1 h2; exact ⟨h1, h2⟩)
      subst htn2
      clear hd htn hk
      go_wp2
      go_ret2
      obtain ⟨rfl, rfl⟩ := HUU.out
      have hm := HM.out
      rw [HMM.out] at hm ⊢
      exact ⟨a4, c4, rfl, hm⟩

theorem getD_take (l : List Nat) (n j : Nat) (h : j < n) : (l.take n).getD j 0 = l.getD j 0 := by
  simp only [List.getD_eq_getElem?_getD, List.getElem?_take]; rw [if_pos h]
theorem pow8 (i : Nat) : 256 ^ i = 2 ^ (8 * i) := by rw [Nat.pow_mul]
def fixGot (l : List Nat) : Nat × Nat × Nat := if l.length < 8 then (0, 0, 2) else (num8 (l.take 8), 8, 0)
set_option maxHeartbeats 2000000 in
set_option maxRecDepth 100000 in
theorem getFixed_any (v : Value) (l : List Nat) (w : World) (hv : SlAt w v (bys l)) (hb : ∀ x ∈ l, x < 256) (hl : l.length ≤ 100000000000) (V N E : Nat) (hg : fixGot l = (V, N, E)) :
    Calls Try.prog 26 #[v] w fun e w' => e = .returned (.tuple #[.int .u64 (V : Int), .int .i64 (N : Int), .int .i64 (E : Int)]) ∧ w = w' := by
  have HV := Lib.hid hv
  have HB := Lib.hid hb
  obtain ⟨ao, c, hval, _, _⟩ := hv.val
  rw [bys_length] at hval
  subst hval
  obtain ⟨n, hn⟩ : ∃ n, n = l.length := ⟨_, rfl⟩
  have HN := Lib.hid hn
  unfold fixGot at hg
  rw [← hn] at HV hg hl ⊢
  have hl9 : (n : Int) ≤ 100000000000 := by omega
  clear hv hb hl hn
  by_cases h8 : n < 8
  · rw [if_pos h8] at hg
    have HG := Lib.hid hg
    have q1 : (n : Int) < 8 := by omega
    clear hg h8
    go_enter Try.func26, Try.ntmps26
    go_wp2
    go_ret3
    have h := HG.out
    simp at h
    obtain ⟨rfl, rfl, rfl⟩ := h
    exact ⟨rfl, rfl⟩
  · rw [if_neg h8] at hg
    have HG := Lib.hid hg
    have q1 : ¬ (n : Int) < 8 := by omega
    clear hg h8
    go_enter Try.func26, Try.ntmps26
    go_wp2
    go_loopg [2, 9] 8 (fun x s2 s9 wr => ∃ (i : Nat), i ≤ 8 ∧ x = 8 - i ∧ s9 = .int .i64 i ∧ s2 = .int .u64 ((num8 (l.take i) : Nat) : Int) ∧ w = wr)
    case atStart => exact ⟨0, by omega, rfl, rfl, rfl, rfl⟩
    case round =>
      obtain ⟨i, hi8, rfl, rfl, rfl, rfl⟩ := hrel
      by_cases hd : i < 8
      · obtain ⟨g, o, rfl, hc⟩ := HV.out.elem (bys_get (l := l) (j := i) (by have := HN.out; omega))
        have h256 : l.getD i 0 < 256 := by
          rw [List.getD_eq_getElem?_getD, List.getElem?_eq_getElem (by have := HN.out; omega)]; exact HB.out _ (List.getElem_mem _)
        have hsn := num8_snoc (l.take i) (l.getD i 0)
        rw [← take_snocN l i (by have := HN.out; omega), List.length_take, Nat.min_eq_left (by have := HN.out; omega)] at hsn
        have hlt := num8_lt (l.take i) (fun x hx => HB.out x (List.mem_of_mem_take hx))
        rw [List.length_take, Nat.min_eq_left (by have := HN.out; omega)] at hlt
        have hlt2 := num8_lt (l.take (i + 1)) (fun x hx => HB.out x (List.mem_of_mem_take hx))
        rw [List.length_take, Nat.min_eq_left (by have := HN.out; omega)] at hlt2
        have hp8 : 256 ^ (i + 1) ≤ 256 ^ 8 := Nat.pow_le_pow_right (by omega) (by omega)
        rw [← p256] at hp8
        obtain ⟨C, hC⟩ : ∃ C, C = l.getD i 0 := ⟨_, rfl⟩
        rw [← hC] at hc h256 hsn
        obtain ⟨A, hA⟩ : ∃ A, A = num8 (l.take i) := ⟨_, rfl⟩
        obtain ⟨A2, hA2⟩ : ∃ A, A = num8 (l.take (i + 1)) := ⟨_, rfl⟩
        rw [← hA, ← hA2] at hsn
        rw [← hA] at hlt
        rw [← hA2] at hlt2
        have HA2 := Lib.hid hA2
        rw [← hA]
        obtain ⟨B, hB⟩ : ∃ B, B = C * 256 ^ i := ⟨_, rfl⟩
        rw [← hB] at hsn
        obtain ⟨S8, hS8⟩ : ∃ S, S = 8 * i := ⟨_, rfl⟩
        have hw8 : IntKind.i64.wrap (8 * (i : Int)) = (S8 : Int) := by rw [IntWalk.i64_in _ ⟨by omega, by omega⟩]; omega
        have hw9 : 8 * (i : Int) = (S8 : Int) := by omega
        have hBC : (C : Int) * 2 ^ S8 = (B : Int) := by rw [hB, pow8, hS8]; simp
        have hsh2 : IntKind.u64.wrap ((C : Int) * 2 ^ S8) = (B : Int) := by rw [hBC, IntKind.wrap_u64]; omega
        have hsh1 : IntKind.u64.wrap ((C : Int) * 2 ^ min S8 64) = (B : Int) := by rw [Nat.min_eq_left (by omega)]; exact hsh2
        have hsc : IntKind.u64.wrap (C : Int) = (C : Int) := by rw [IntKind.wrap_u64]; omega
        have hor : bits .or .u64 (A : Int) (B : Int) = (A2 : Int) := by
          rw [u64_or_nat _ _ (by omega) (by omega), hB, pow8, or_add _ _ _ (by rw [← pow8]; exact hlt), hsn, hB, pow8]
        have s0 : (0 : Int) ≤ (S8 : Int) := by omega
        have hi0 : (0 : Int) ≤ (i : Int) := by omega
        have hi1 : (i : Int) < (n : Int) := by omega
        have hi2 : (i : Int) < 8 := by omega
        have HD := Lib.hid hd
        clear hC hA hA2 hB hS8 hBC hsn hlt hlt2 hp8 hd hi8
        go_wp2
        go_roundg (8 - (i + 1))
        case measure => have := HD.out; omega
        case rel => exact ⟨i + 1, by have := HD.out; omega, rfl, by go_num, by rw [← HA2.out], rfl⟩
      · have hi : i = 8 := by omega
        subst hi
        clear hd hi8
        go_wp2
        go_ret3
        have h := HG.out
        simp at h
        obtain ⟨rfl, rfl, rfl⟩ := h
        exact ⟨rfl, rfl⟩
end Go.Proofs.Ytdgpeganmgcjiaa
