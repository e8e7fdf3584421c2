/- package pack's writer: Fix; the document's Fix, Num, Text. -/
import Derived.Test.YtkidbbmdlmnokaaP10
import Derived.Deep.LoopGhost
import Derived.Deep.RegionLaw
namespace Go.Proofs.Ytkidbbmdlmnokaa
open Go.RowKit
attribute [local go_sem ↓] Go.wp_at_zero Go.wp_at_succ

/-- A fixed number's bytes, so many. -/
def fixK (v : Int) (j : Nat) : List Int := (List.range j).map (byteI v)
def fixB (v : Int) : List Int := fixK v 8
theorem fixK_succ (v : Int) (j : Nat) : fixK v (j + 1) = fixK v j ++ [byteI v j] := by unfold fixK; rw [List.range_succ, List.map_append]; rfl
@[simp] theorem fixK_length (v : Int) (j : Nat) : (fixK v j).length = j := by simp [fixK]

set_option maxHeartbeats 2000000 in
theorem wfix_any (B p : Nat) (v : Value) (l : List Int) (x : Int) (w : World) (HW : WrAt 110 5 w B p v l) (hB : B ≤ w.heap.size)
    (hl : l.length ≤ 1000000000) :
    Calls Try.prog 52 #[.pointer (some ⟨p, 0, none⟩), .int .u64 x] w fun e w' => e = .returned (.tuple #[]) ∧ WrTo 110 5 w w' B p v (l ++ fixB x) := by
  obtain ⟨i0, hi, hz0, hz1, hz2⟩ := info_parts Try.info5
  have hst : WrTo 110 5 w w B p v (l ++ fixK x 0) := by simpa [fixK] using HW.to
  clear HW
  go_enter Try.func52, Try.ntmps52
  go_wp2
  go_loopg [5] 8 (fun g s5 wr => ∃ j : Nat, j ≤ 8 ∧ g = 8 - j ∧ s5 = .int .i64 j ∧ WrTo 110 5 w wr B p v (l ++ fixK x j))
  case atStart => exact ⟨0, Nat.zero_le _, rfl, rfl, hst⟩
  case round =>
    obtain ⟨j, hj, rfl, rfl, hto⟩ := hrel
    clear hst
    by_cases hd : j < 8
    · have hj0 : (0 : Int) ≤ (j : Int) := by omega
      have hj1 : (j : Int) < 8 := by omega
      obtain ⟨d, hdd⟩ : ∃ d, d = 8 * j := ⟨_, rfl⟩
      have e6 : IntKind.i64.wrap (8 * (j : Int)) = (d : Int) := by rw [IntWalk.i64_in _ ⟨by omega, by omega⟩]; omega
      have e7 : 8 * (j : Int) = (d : Int) := by omega
      have e8 : (d : Int) ≤ 64 := by omega
      have e10 : IntKind.i64.wrap (d : Int) = (d : Int) := IntWalk.i64_in _ ⟨by omega, by omega⟩
      have e9 : (0 : Int) ≤ (d : Int) := by omega
      obtain ⟨v1, HW1, hsz1, back⟩ := hto.part
      have hB1 : B ≤ wr.heap.size := Nat.le_trans hB hsz1
      have hlen1 : (l ++ fixK x j).length ≤ 1000000010 := by simp; omega
      obtain ⟨l1, hl1⟩ : ∃ l1, l1 = l ++ fixK x j := ⟨_, rfl⟩
      rw [← hl1] at HW1 hlen1
      obtain ⟨y, hy⟩ : ∃ y, y = byteI x j := ⟨_, rfl⟩
      have hyv : IntKind.u8.wrap (x / 2 ^ d) = y := by
        have := byte_shift x (8 * (j : Int)) j rfl
        rw [hy, ← this, e7]; rfl
      have hyv2 : x / 2 ^ d % 256 = y := by rw [← hyv, IntKind.wrap_u8]
      have HL1 := Lib.hid hl1
      have HY := Lib.hid hy
      have HD := Lib.hid hd
      have hc1 := HW1.cell
      have hf1 := HW1.free
      have hp1 := HW1.lt
      obtain ⟨ao1, cp1, rfl⟩ := ownsRow_slice HW1.owns
      clear hto hl1 hy hdd hd
      go_wp2
      go_region_law
        ((refine step_append_src _ (by rfl) (.tmp 12) (.tmp 18) 27 27 (by rfl) B 5 i0 (.int .u8 0) 1 1 Try.underlying27 hi hz0 hz1 hz2 rfl (.slice ao1 l1.length cp1) l1.length (u8s l1) (by rfl) (by exact (HW1.owns.alloc _).drew) (.slice (some ⟨wr.heap.size, 0, none⟩) 1 1) 1 [(.int .u8 y)] (by rfl) (by exact src_one_drew wr Try.underlying27 (.int .u8 y) rfl) (by unfold maxLen; omega) (by omega) (by simp; omega) ?_; intro v1 w1 hown hg _ hat; obtain ⟨a1, c1, rfl⟩ := ownsRow_slice hown; have hk1 : Kept (fun _ => False) wr (wr.alloc (.cells #[(.int .u8 y)] 5)).drew := ((Kept.refl _ _).alloc _).drew; have hbox := HW1.behind hk1 hg; have hc1 := cell_of_one hbox; have hf1 := free_of_one hbox))
      all_goals
        have fin := Lib.hid (back.out _ _ (HW1.pushed (l2 := [y]) hk1 hown hg rfl hat))
        clear hown hg hat
        go_wp2
        go_roundg (8 - (j + 1))
        case measure => have := HD.out; omega
        case rel =>
          have e : l1 ++ [y] = l ++ fixK x (j + 1) := by rw [HL1.out, List.append_assoc, fixK_succ, HY.out]
          exact ⟨j + 1, HD.out, rfl, by go_num, by rw [← e]; exact fin.out⟩
    · obtain rfl : j = 8 := by omega
      go_wp2
      go_end0
      exact ⟨rfl, hto⟩

theorem own_kept {w wr wa w2 : World} {E : TypeId} {v : Value} {n : Nat} {xs : List Value} (hk : Kept (fun _ => False) w wr) (ha : Kept (fun _ => False) wr wa) (ho : wr.ownsRow w.heap.size E 1 v n xs) (hg : wa.grownBy w2 v.ownBlock) : Kept (fun _ => False) w w2 :=
  (hk.trans ha).grown hg (fun k e hlt => by have := (ownsRow_lt ho e).2; omega)

set_option maxHeartbeats 2000000 in
theorem refFix_any (x : Int) (w : World) (h0 : 0 ≤ x) (h1 : x ≤ 18446744073709551615) :
    Calls Try.prog 53 #[.int .u64 x] w (Cloned 5 w (fixB x)) := by
  obtain ⟨i0, hi, hz0, hz1, hz2⟩ := info_parts Try.info5
  have hst : w.ownsRow w.heap.size 5 1 (.slice none 0 0) 0 (u8s (fixK x 0)) := World.ownsRow_nil _ _ _ _
  go_enter Try.func53, Try.ntmps53
  go_wp2
  go_loopg [0, 3, 4] 8 (fun g s0 s3 s4 wr => ∃ j : Nat, j ≤ 8 ∧ g = 8 - j ∧ s4 = .int .i64 j ∧ s0 = .int .u64 (x / ((256 ^ j : Nat) : Int)) ∧ wr.ownsRow w.heap.size 5 1 s3 j (u8s (fixK x j)) ∧ Kept (fun _ => False) w wr)
  case atStart => exact ⟨0, Nat.zero_le _, rfl, rfl, by simp, hst, Kept.refl _ _⟩
  case round =>
    obtain ⟨j, hj, rfl, rfl, rfl, hown, hk⟩ := hrel
    clear hst
    obtain ⟨V, hV⟩ : ∃ V, V = x / ((256 ^ j : Nat) : Int) := ⟨_, rfl⟩
    have hp : (0 : Int) < ((256 ^ j : Nat) : Int) := by have := Nat.pow_pos (n := j) (show 0 < 256 by decide); omega
    have V0 : 0 ≤ V := by rw [hV]; exact Int.ediv_nonneg h0 (by omega)
    have V1 : V ≤ 18446744073709551615 := by rw [hV]; exact Int.le_trans (Int.ediv_le_self _ h0) h1
    rw [← hV]
    by_cases hd : j < 8
    · obtain ⟨y, hy⟩ : ∃ y, y = V % 256 := ⟨_, rfl⟩
      have y0 : IntKind.u8.wrap y = y := by rw [IntKind.wrap_u8]; omega
      have y1 : y % 256 = y := by omega
      have y2 : V % 256 = y := hy.symm
      have v3 : IntKind.u64.wrap (V / 256) = V / 256 := wrap_u64_of _ (by omega) (by omega)
      have hn : u8s (fixK x j) ++ [Value.int .u8 y] = u8s (fixK x (j + 1)) := by
        rw [fixK_succ]; simp [u8s, hy, hV, byteI]
      have hn2 : V / 256 = x / ((256 ^ (j + 1) : Nat) : Int) := by
        rw [hV, Nat.pow_succ, Int.natCast_mul, Int.ediv_ediv_of_nonneg (by omega)]; rfl
      have HN := Lib.hid hn
      have HN2 := Lib.hid hn2
      have HD := Lib.hid hd
      have hj1 : (j : Int) < 8 := by omega
      clear hV hy hn hn2 hd hp
      go_wp2_with (at_builtin; refine wpList_append_src _ rfl (.tmp 9) (.tmp 13) 27 27 rfl w.heap.size 5 i0 (.int .u8 0) 1 1 Try.underlying27 hi hz0 hz1 hz2 rfl u3 j (u8s (fixK x j)) rfl (hown.alloc _) (.slice (some ⟨wr.heap.size, 0, none⟩) 1 1) 1 [.int .u8 y] rfl (src_one wr Try.underlying27 (.int .u8 y) rfl) ?c1 ?c2 ?c3 ?_)
      case c1 => unfold maxLen; omega
      case c2 => omega
      case c3 => have := hk.size; simp; omega
      intro v4 w2 hown2 hg _ hat
      rw [HN.out] at hown2
      have hk2 := own_kept hk ((Kept.refl _ _).alloc _) hown hg
      clear hg hat hown
      go_wp2
      go_roundg (8 - (j + 1))
      case measure => have := HD.out; omega
      case rel => exact ⟨j + 1, HD.out, rfl, by go_num, by rw [HN2.out], hown2, hk2⟩
    · obtain rfl : j = 8 := by omega
      have hf : Cloned 5 w (fixB x) (.returned u3) wr := ⟨u3, rfl, by simpa [fixB] using hown, hk⟩
      have HF := Lib.hid hf
      clear hf hown hV
      go_wp2
      go_ret
      exact HF.out

theorem restB_cons (v : Int) (j : Nat) : byteI v j :: restB v j j = restB v (j + 1) (j + 1) := by
  unfold restB
  rw [List.range_succ_eq_map, List.map_cons, List.map_map]
  simp only [Nat.add_sub_cancel, Nat.sub_zero]
  congr 1
  apply List.map_congr_left
  intro i hi
  simp only [Function.comp_apply]
  congr 1
  omega

/-- The first byte's ones. -/
def onesB (j : Nat) : Nat := 256 - 2 ^ (8 - j)
theorem onesB_succ (j : Nat) (hj : j < 8) : onesB (j + 1) = onesB j + 128 / 2 ^ j := by
  obtain rfl | rfl | rfl | rfl | rfl | rfl | rfl | rfl : j = 0 ∨ j = 1 ∨ j = 2 ∨ j = 3 ∨ j = 4 ∨ j = 5 ∨ j = 6 ∨ j = 7 := by omega
  all_goals decide
theorem firstB_ones (v : Int) (k : Nat) (hk : k ≤ 8) : firstB v k = (onesB k : Int) + v / ((256 ^ k : Nat) : Int) := by
  unfold firstB onesB
  have h : 2 ^ (8 - k) ≤ 2 ^ 8 := Nat.pow_le_pow_right (by omega) (by omega)
  have h2 : (2 : Nat) ^ 8 = 256 := rfl
  omega
theorem num_top (x : Int) (h0 : 0 ≤ x) (h1 : x ≤ 18446744073709551615) : 0 ≤ x / ((256 ^ oth x : Nat) : Int) ∧ (oth x < 8 → (onesB (oth x) : Int) + x / ((256 ^ oth x : Nat) : Int) < 256) ∧ (oth x = 8 → x / ((256 ^ oth x : Nat) : Int) = 0) := by
  have hk := oth_le x
  have hp : (0 : Int) < ((256 ^ oth x : Nat) : Int) := by have := Nat.pow_pos (n := oth x) (show 0 < 256 by decide); omega
  refine ⟨Int.ediv_nonneg h0 (by omega), fun h => ?_, fun h => ?_⟩
  · have he := oth_end x (oth x) rfl h
    generalize oth x = k at *
    obtain rfl | rfl | rfl | rfl | rfl | rfl | rfl | rfl : k = 0 ∨ k = 1 ∨ k = 2 ∨ k = 3 ∨ k = 4 ∨ k = 5 ∨ k = 6 ∨ k = 7 := by omega
    all_goals
      simp only [onesB, Nat.reduceMul, Nat.reduceAdd, Nat.reduceSub, Nat.reducePow] at he ⊢
      omega
  · rw [h]
    simp only [Nat.reducePow]
    omega

set_option maxHeartbeats 2000000 in
set_option maxRecDepth 100000 in
theorem refNum_any (x : Int) (w : World) (h0 : 0 ≤ x) (h1 : x ≤ 18446744073709551615) :
    Calls Try.prog 49 #[.int .u64 x] w (Cloned 5 w (numB x)) := by
  obtain ⟨i0, hi, hz0, hz1, hz2⟩ := info_parts Try.info5
  have hst : w.ownsRow w.heap.size 5 1 (.slice none 0 0) 0 (u8s (restB x 0 0)) := World.ownsRow_nil _ _ _ _
  obtain ⟨k, hk⟩ : ∃ k, k = oth x := ⟨_, rfl⟩
  have hk8 : k ≤ 8 := by rw [hk]; exact oth_le x
  have hoth : ∀ w, Calls Try.prog 86 #[.int .u64 x] w fun e w' => e = .returned (.int .i64 (k : Int)) ∧ w = w' := fun w => by rw [hk]; exact refOthers_any x h0 h1 w
  obtain ⟨T0, T1, T2⟩ := num_top x h0 h1
  have hnum : numB x = firstB x k :: restB x k k := by rw [hk]; rfl
  rw [firstB_ones x k hk8] at hnum
  rw [← hk] at T0 T1 T2
  have HO := Lib.hid hoth
  have HNUM := Lib.hid hnum
  have HT1 := Lib.hid T1
  have HT2 := Lib.hid T2
  obtain ⟨Z, hZ⟩ : ∃ Z, Z = x / ((256 ^ k : Nat) : Int) := ⟨_, rfl⟩
  rw [← hZ] at T0 HT1 HT2 HNUM
  have HZ := Lib.hid hZ
  have Z1 : Z ≤ 18446744073709551615 := by rw [hZ]; exact Int.le_trans (Int.ediv_le_self _ h0) h1
  clear hk hoth T1 T2 hnum hZ
  go_enter Try.func49, Try.ntmps49
  go_wp2_with (go_at_call 86; refine (HO.out _).mono ?_; rintro e w' ⟨rfl, rfl⟩)
  go_loopg [0, 4, 5] k (fun g s0 s4 s5 wr => ∃ j : Nat, j ≤ k ∧ g = k - j ∧ s5 = .int .i64 j ∧ s0 = .int .u64 (x / ((256 ^ j : Nat) : Int)) ∧ wr.ownsRow w.heap.size 5 1 s4 j (u8s (restB x j j)) ∧ Kept (fun _ => False) w wr)
  case atStart => exact ⟨0, Nat.zero_le _, rfl, rfl, by simp, hst, Kept.refl _ _⟩
  case round =>
    obtain ⟨j, hj, rfl, rfl, rfl, hown, hkw⟩ := hrel
    clear hst
    obtain ⟨V, hV⟩ : ∃ V, V = x / ((256 ^ j : Nat) : Int) := ⟨_, rfl⟩
    have hp : (0 : Int) < ((256 ^ j : Nat) : Int) := by have := Nat.pow_pos (n := j) (show 0 < 256 by decide); omega
    have V0 : 0 ≤ V := by rw [hV]; exact Int.ediv_nonneg h0 (by omega)
    have V1 : V ≤ 18446744073709551615 := by rw [hV]; exact Int.le_trans (Int.ediv_le_self _ h0) h1
    rw [← hV]
    by_cases hd : j < k
    · obtain ⟨y, hy⟩ : ∃ y, y = V % 256 := ⟨_, rfl⟩
      have y0 : IntKind.u8.wrap y = y := by rw [IntKind.wrap_u8]; omega
      have y1 : y % 256 = y := by omega
      have y2 : V % 256 = y := hy.symm
      have v3 : IntKind.u64.wrap (V / 256) = V / 256 := wrap_u64_of _ (by omega) (by omega)
      have hn : Value.int .u8 y :: u8s (restB x j j) = u8s (restB x (j + 1) (j + 1)) := by
        rw [← restB_cons x j]; simp [u8s, hy, hV, byteI]
      have hn2 : V / 256 = x / ((256 ^ (j + 1) : Nat) : Int) := by
        rw [hV, Nat.pow_succ, Int.natCast_mul, Int.ediv_ediv_of_nonneg (by omega)]; rfl
      have HN := Lib.hid hn
      have HN2 := Lib.hid hn2
      have HD := Lib.hid hd
      have hj1 : (j : Int) < (k : Int) := by omega
      have hj1b : decide (j < k) = true := decide_eq_true hd
      have hsrc := (ownsRow.src (hown.alloc (.cells #[.int .u8 y] 5)) Try.underlying27 (u8s_one _) : Src Try.prog 1 27 u4 j (u8s (restB x j j)) _)
      have hlit : (wr.alloc (.cells #[.int .u8 y] 5)).ownsRow w.heap.size 5 1 (.slice (some ⟨wr.heap.size, 0, none⟩) 1 1) 1 [.int .u8 y] := World.ownsRow_lit wr #[.int .u8 y] 1 hkw.size (by unfold maxLen; omega) rfl
      clear hV hy hn hn2 hd hp
      go_wp2_with (at_builtin; refine wpList_append_src _ rfl (.tmp 18) (.tmp 19) 27 27 rfl w.heap.size 5 i0 (.int .u8 0) 1 1 Try.underlying27 hi hz0 hz1 hz2 rfl (.slice (some ⟨wr.heap.size, 0, none⟩) 1 1) 1 [.int .u8 y] rfl hlit u4 j (u8s (restB x j j)) rfl hsrc ?c1 ?c2 ?c3 ?_)
      case c1 => unfold maxLen; omega
      case c2 => omega
      case c3 => have := hkw.size; simp; omega
      intro v4 w2 hown2 hg _ hat
      rw [HN.out, Nat.add_comm] at hown2
      have hk2 := own_kept (hkw.alloc (.cells #[.int .u8 y] 5)) (Kept.refl _ _) hlit hg
      clear hg hat hown hsrc hlit
      go_wp2
      go_roundg (k - (j + 1))
      case measure => have := HD.out; omega
      case rel => exact ⟨j + 1, HD.out, rfl, by go_num, by rw [HN2.out], hown2, hk2⟩
    · obtain rfl : j = k := by omega
      have hVZ : V = Z := by rw [hV, HZ.out]
      subst hVZ
      have HOWN := Lib.hid hown
      have hjj : ¬ (j : Int) < (j : Int) := by omega
      clear hown hd hV hp HZ
      obtain ⟨wo, rfl⟩ : ∃ wo : World, wo = wr := ⟨_, rfl⟩
      go_wp2
      go_loopg [6, 7] j (fun g s6 s7 wr => ∃ i : Nat, i ≤ j ∧ g = j - i ∧ s7 = .int .i64 i ∧ s6 = .int .i64 ((onesB i : Nat) : Int) ∧ wo = wr)
      case atStart => exact ⟨0, Nat.zero_le _, rfl, rfl, rfl, rfl⟩
      case round =>
        obtain ⟨i, hij, rfl, rfl, rfl, rfl⟩ := hrel
        have hob : onesB i ≤ 255 := by unfold onesB; have := Nat.two_pow_pos (8 - i); omega
        obtain ⟨O, hO⟩ : ∃ O, O = onesB i := ⟨_, rfl⟩
        rw [← hO] at hob ⊢
        by_cases hd : i < j
        · obtain ⟨P, hP⟩ : ∃ P, P = 2 ^ i := ⟨_, rfl⟩
          have hPb : 1 ≤ P ∧ P ≤ 128 := by
            rw [hP]
            have h2 : 2 ^ i ≤ 2 ^ 7 := Nat.pow_le_pow_right (by omega) (by omega)
            have := Nat.two_pow_pos i
            omega
          have hpw : ∀ w, Calls Try.prog 87 #[.int .i64 (i : Int)] w fun e w' => e = .returned (.int .u64 (P : Int)) ∧ w = w' := fun w => by rw [hP]; exact power_any i (by omega) w
          obtain ⟨Q, hQ⟩ : ∃ Q, Q = 128 / P := ⟨_, rfl⟩
          have q1 : (128 : Int) / (P : Int) = (Q : Int) := by rw [hQ]; simp
          have q1t : (128 : Int).tdiv (P : Int) = (Q : Int) := by rw [Int.tdiv_eq_ediv_of_nonneg (by decide)]; exact q1
          have hQb : Q ≤ 128 := by rw [hQ]; exact Nat.div_le_self _ _
          have hP1 : IntKind.i64.wrap (P : Int) = (P : Int) := IntWalk.i64_in _ ⟨by omega, by omega⟩
          have hP0 : (0 : Int) < (P : Int) := by omega
          have q2 : IntKind.i64.wrap (Q : Int) = (Q : Int) := IntWalk.i64_in _ ⟨by omega, by omega⟩
          obtain ⟨S, hS⟩ : ∃ S, S = O + Q := ⟨_, rfl⟩
          have s1 : (O : Int) + (Q : Int) = (S : Int) := by omega
          have s2 : IntKind.i64.wrap (S : Int) = (S : Int) := IntWalk.i64_in _ ⟨by omega, by omega⟩
          have hSn : S = onesB (i + 1) := by rw [onesB_succ i (by omega), hS, hO, hQ, hP]
          have HSN := Lib.hid hSn
          have HPW := Lib.hid hpw
          have HD := Lib.hid hd
          have hij1 : (i : Int) < (j : Int) := by omega
          have hij1b : decide (i < j) = true := decide_eq_true hd
          clear hP hpw hQ hS hSn hO hd
          go_wp2_with (go_at_call 87; refine (HPW.out _).mono ?_; rintro e w' ⟨rfl, rfl⟩)
          go_roundg (j - (i + 1))
          case measure => have := HD.out; omega
          case rel => exact ⟨i + 1, HD.out, rfl, by go_num, by rw [HSN.out], rfl⟩
        · obtain rfl : i = j := by omega
          have hlitf : ∀ F : Int, (wo.alloc (.cells #[.int .u8 F] 5)).ownsRow w.heap.size 5 1 (.slice (some ⟨wo.heap.size, 0, none⟩) 1 1) 1 [.int .u8 F] := fun F => World.ownsRow_lit wo #[.int .u8 F] 1 hkw.size (by unfold maxLen; omega) rfl
          have hsrcf : ∀ F : Int, Src Try.prog 1 27 u4 i (u8s (restB x i i)) (wo.alloc (.cells #[.int .u8 F] 5)) := fun F => ownsRow.src (HOWN.out.alloc (.cells #[.int .u8 F] 5)) Try.underlying27 (u8s_one _)
          have fin : ∀ (F : Int) (v4 : Value) (w2 : World), F = (O : Int) + V → w2.ownsRow w.heap.size 5 1 v4 (1 + i) (.int .u8 F :: u8s (restB x i i)) → (wo.alloc (.cells #[.int .u8 F] 5)).grownBy w2 (Value.slice (some ⟨wo.heap.size, 0, none⟩) 1 1).ownBlock → Cloned 5 w (numB x) (.returned v4) w2 := fun F v4 w2 hF hown hg => by
            refine ⟨v4, rfl, ?_, own_kept (hkw.alloc (.cells #[.int .u8 F] 5)) (Kept.refl _ _) (hlitf F) hg⟩
            rw [HNUM.out, ← hO, ← hF]
            have e : u8s (F :: restB x i i) = .int .u8 F :: u8s (restB x i i) := rfl
            have e2 : (F :: restB x i i).length = 1 + i := by rw [List.length_cons, restB_length]; omega
            rw [e, e2]; exact hown
          have FIN := Lib.hid fin
          have hjj2 : decide (i < i) = false := decide_eq_false (Nat.lt_irrefl _)
          by_cases h8 : i < 8
          · have hb := HT1.out h8
            rw [← hO] at hb
            obtain ⟨F, hF⟩ : ∃ F, F = (O : Int) + V := ⟨_, rfl⟩
            have f0 : (O : Int) + V = F := hF.symm
            have f1 : IntKind.i64.wrap V = V := IntWalk.i64_in _ ⟨by omega, by omega⟩
            have f2 : IntKind.i64.wrap F = F := IntWalk.i64_in _ ⟨by omega, by omega⟩
            have f3 : IntKind.u8.wrap F = F := by rw [IntKind.wrap_u8]; omega
            have f4 : F % 256 = F := by omega
            have hi8 : (i : Int) < 8 := by omega
            have hsrc := hsrcf F
            have hlit := hlitf F
            have HF := Lib.hid hF
            clear hF hb hO hsrcf hlitf fin h8 hd
            go_wp2_with (at_builtin; refine wpList_append_src _ rfl (.tmp 42) (.tmp 43) 27 27 rfl w.heap.size 5 i0 (.int .u8 0) 1 1 Try.underlying27 hi hz0 hz1 hz2 rfl (.slice (some ⟨wo.heap.size, 0, none⟩) 1 1) 1 [.int .u8 F] rfl hlit u4 i (u8s (restB x i i)) rfl hsrc ?c1 ?c2 ?c3 ?_)
            case c1 => unfold maxLen; omega
            case c2 => omega
            case c3 => have := hkw.size; simp; omega
            intro v4 w2 hown2 hg _ hat
            have hfin := Lib.hid (FIN.out F v4 w2 HF.out hown2 hg)
            clear hown2 hg hat hsrc hlit
            go_wp2
            go_ret
            exact hfin.out
          · have hV0 := HT2.out (by omega)
            have hi8 : ¬ (i : Int) < 8 := by omega
            have f3 : IntKind.u8.wrap (O : Int) = (O : Int) := by rw [IntKind.wrap_u8]; omega
            have f4 : (O : Int) % 256 = (O : Int) := by omega
            have hsrc := hsrcf (O : Int)
            have hlit := hlitf (O : Int)
            have HF : Hid ((O : Int) = (O : Int) + V) := Lib.hid (by omega)
            clear hV0 hO hsrcf hlitf fin h8 hd
            go_wp2_with (at_builtin; refine wpList_append_src _ rfl (.tmp 42) (.tmp 43) 27 27 rfl w.heap.size 5 i0 (.int .u8 0) 1 1 Try.underlying27 hi hz0 hz1 hz2 rfl (.slice (some ⟨wo.heap.size, 0, none⟩) 1 1) 1 [.int .u8 (O : Int)] rfl hlit u4 i (u8s (restB x i i)) rfl hsrc ?c1 ?c2 ?c3 ?_)
            case c1 => unfold maxLen; omega
            case c2 => omega
            case c3 => have := hkw.size; simp; omega
            intro v4 w2 hown2 hg _ hat
            have hfin := Lib.hid (FIN.out _ v4 w2 HF.out hown2 hg)
            clear hown2 hg hat hsrc hlit
            go_wp2
            go_ret
            exact hfin.out
end Go.Proofs.Ytkidbbmdlmnokaa
