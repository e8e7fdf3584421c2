/- The document's answers for layer 1: Bytes, Row. -/
import Derived.Test.YtjpnfadmblmjbaaDoorVB16
namespace Go.Proofs.YtjpnfadmblmjbaaDoor
open Go.RowKit
attribute [local go_sem ↓] Go.wp_at_zero Go.wp_at_succ

/-- So many bits from a place on, noughts behind the end. -/
def padB (bs : List Bool) (i k : Nat) : List Bool := (List.range k).map fun j => bs.getD (i + j) false
@[simp] theorem padB_length (bs : List Bool) (i k : Nat) : (padB bs i k).length = k := by simp [padB]
theorem padB_succ (bs : List Bool) (i k : Nat) : padB bs i (k + 1) = padB bs i k ++ [bs.getD (i + k) false] := by
  unfold padB; rw [List.range_succ, List.map_append]; rfl
theorem padB_byte (bs : List Bool) (j : Nat) : numB (padB bs (8 * j) 8) = byteAt bs j := by
  apply Nat.eq_of_testBit_eq
  intro i
  rw [numB_testBit, byteAt_testBit, padB_length]
  by_cases hi : i < 8
  · have e : (padB bs (8 * j) 8).getD (8 - 1 - i) false = bs.getD (8 * j + (7 - i)) false := by
      unfold padB
      rw [List.getD_eq_getElem?_getD, List.getElem?_map, List.getElem?_range (by omega)]
      rfl
    rw [e]
  · simp [hi]

set_option maxHeartbeats 2000000 in
set_option maxRecDepth 100000 in
theorem refBytes_any (v : Value) (bs : List Bool) (w : World) (hv : SlAt w v (ints bs)) (hl : bs.length ≤ 1000000000) :
    Calls Tryd.prog 18 #[v] w (FreshV 5 w (bys (packB bs))) := by
  obtain ⟨i0, hi, hz0, hz1, hz2⟩ := info_parts Tryd.infoU8
  have hlen := ints_length bs
  have hv0 := Lib.hid hv
  obtain ⟨ao, c, hval, _, _⟩ := hv.val
  rw [hlen] at hval
  subst hval
  obtain ⟨N, hN⟩ : ∃ N, N = (bs.length + 7) / 8 := ⟨_, rfl⟩
  have hst : w.ownsRow w.heap.size 5 1 (.slice none 0 0) 0 (bys ((packB bs).take 0)) := World.ownsRow_nil _ _ _ _
  have HN := Lib.hid hN
  clear hv hlen hN
  go_enter Tryd.func18, Tryd.ntmps18
  go_wp2
  go_loopg [3, 4] N (fun g s3 s4 wr => ∃ i : Nat, i ≤ N ∧ g = N - i ∧ s4 = .int .i64 ((8 * i : Nat) : Int) ∧ wr.ownsRow w.heap.size 5 1 s3 i (bys ((packB bs).take i)) ∧ Kept (fun _ => False) w wr)
  case atStart => exact ⟨0, Nat.zero_le _, rfl, rfl, hst, Kept.refl _ _⟩
  case round =>
    obtain ⟨i, hil, rfl, rfl, hown, hk⟩ := hrel
    clear hst
    obtain ⟨I, hI⟩ : ∃ I, I = 8 * i := ⟨_, rfl⟩
    rw [← hI]
    by_cases hd : i < N
    · have hIb : I < bs.length := by have := HN.out; omega
      have hIl : (I : Int) < (bs.length : Int) := by omega
      have I0 : (0 : Int) ≤ (I : Int) := by omega
      have HOWN := Lib.hid hown
      have HI := Lib.hid hI
      have HD := Lib.hid hd
      clear hown hI hd
      obtain ⟨wo, rfl⟩ : ∃ wo : World, wo = wr := ⟨_, rfl⟩
      go_wp2
      go_loopg [5, 6] 8 (fun g t5 t6 wr => ∃ k : Nat, k ≤ 8 ∧ g = 8 - k ∧ t6 = .int .i64 k ∧ t5 = .int .i64 ((numB (padB bs I k) : Nat) : Int) ∧ wo = wr)
      case atStart => exact ⟨0, Nat.zero_le _, rfl, rfl, rfl, rfl⟩
      case round =>
        obtain ⟨k, hk8, rfl, rfl, rfl, rfl⟩ := hrel
        obtain ⟨V, hV⟩ : ∃ V, V = numB (padB bs I k) := ⟨_, rfl⟩
        have hVl : V < 256 := by
          have h1 := numB_lt (padB bs I k)
          rw [← hV, padB_length] at h1
          have h2 : 2 ^ k ≤ 2 ^ 8 := Nat.pow_le_pow_right (by omega) hk8
          omega
        rw [← hV]
        by_cases hd : k < 8
        · have hkd : (k : Int) < 8 := by omega
          have k0 : (0 : Int) ≤ (k : Int) := by omega
          obtain ⟨a, ha⟩ : ∃ a, a = I + k := ⟨_, rfl⟩
          have a1 : (I : Int) + (k : Int) = (a : Int) := by omega
          have a2 : IntKind.i64.wrap ((I : Int) + (k : Int)) = (a : Int) := by rw [a1]; exact IntWalk.i64_in _ ⟨by omega, by omega⟩
          have a3 : IntKind.i64.wrap (a : Int) = (a : Int) := IntWalk.i64_in _ ⟨by omega, by omega⟩
          have a0 : (0 : Int) ≤ (a : Int) := by omega
          obtain ⟨y, hy⟩ : ∃ y, y = (bs.getD a false).toNat := ⟨_, rfl⟩
          have hy1 : y ≤ 1 := by rw [hy]; exact Bool.toNat_le _
          obtain ⟨X, hX⟩ : ∃ X, X = 2 * V + y := ⟨_, rfl⟩
          have hXn : X = numB (padB bs I (k + 1)) := by rw [padB_succ, numB_snoc, hX, hV, hy, ha]
          have HX := Lib.hid hXn
          have x1 : IntKind.i64.wrap (2 * (V : Int)) = 2 * (V : Int) := IntWalk.i64_in _ ⟨by omega, by omega⟩
          have x2 : 2 * (V : Int) + (y : Int) = (X : Int) := by omega
          have x3 : IntKind.i64.wrap (X : Int) = (X : Int) := IntWalk.i64_in _ ⟨by omega, by omega⟩
          have HDK := Lib.hid hd
          by_cases hal : a < bs.length
          · obtain ⟨g, off, rfl, hcell⟩ := (hv0.out.kept hk (fun _ _ x => x)).elem (i := a) (u := .int .i64 ((y : Nat) : Int)) (by rw [ints_get hal, hy])
            have hald : (a : Int) < (bs.length : Int) := by omega
            have haldb : decide (a < bs.length) = true := decide_eq_true hal
            clear hV hVl hX hXn hy hy1 ha hd hal
            go_wp2
            go_roundg (8 - (k + 1))
            case measure => have := HDK.out; omega
            case rel => exact ⟨k + 1, HDK.out, rfl, by go_num, by rw [HX.out], rfl⟩
          · have hald : ¬ (a : Int) < (bs.length : Int) := by omega
            have haldb : decide (a < bs.length) = false := decide_eq_false hal
            have hy0 : y = 0 := by rw [hy, List.getD_eq_getElem?_getD, List.getElem?_eq_none (by omega)]; rfl
            have x4 : 2 * (V : Int) = (X : Int) := by omega
            clear hV hVl hX hXn hy hy1 ha hd hal x2 hy0 x1
            have x5 : IntKind.i64.wrap (2 * (V : Int)) = (X : Int) := by rw [x4]; exact x3
            go_wp2
            go_roundg (8 - (k + 1))
            case measure => have := HDK.out; omega
            case rel => exact ⟨k + 1, HDK.out, rfl, by go_num, by rw [HX.out], rfl⟩
        · obtain rfl : k = 8 := by omega
          have hVb : V = byteAt bs i := by rw [hV, HI.out]; exact padB_byte bs i
          have vw : IntKind.u8.wrap (V : Int) = (V : Int) := by rw [IntKind.wrap_u8]; omega
          have vw2 : (V : Int) % 256 = (V : Int) := by omega
          have hn : (bys ((packB bs).take i) ++ [Value.int .u8 (V : Int)]) = bys ((packB bs).take (i + 1)) := by
            have hlp : i < (packB bs).length := by rw [packB_length]; have := HD.out; have := HN.out; omega
            rw [take_snocN _ i hlp, bys_append, packB_getD, hVb]; rfl
          have HNN := Lib.hid hn
          have HS8 : Hid (((8 * (i + 1) : Nat) : Int) = (I : Int) + 8) := Lib.hid (by have := HI.out; omega)
          have hi1 : IntKind.i64.wrap ((I : Int) + 8) = (I : Int) + 8 := IntWalk.i64_in _ ⟨by omega, by omega⟩
          have hown := HOWN.out
          clear hV hVl hVb hn hd hk8
          go_wp2_with (at_builtin; refine wpList_append_src _ rfl (.tmp 33) (.tmp 36) 33 33 rfl w.heap.size 5 i0 (.int .u8 0) 1 1 Tryd.underlying33 hi hz0 hz1 hz2 rfl u3 i (bys ((packB bs).take i)) rfl (hown.alloc _) (.slice (some ⟨wo.heap.size, 0, none⟩) 1 1) 1 [.int .u8 (V : Int)] rfl (src_one wo Tryd.underlying33 (.int .u8 (V : Int)) rfl) ?c1 ?c2 ?c3 ?_)
          case c1 => have := HN.out; have := HD.out; unfold maxLen; omega
          case c2 => have := HN.out; have := HD.out; omega
          case c3 => have := hk.size; simp; omega
          intro v2 w2 hown2 hg _ hat
          rw [HNN.out] at hown2
          have hk2 := own_kept hk ((Kept.refl _ _).alloc _) hown hg
          clear hg hat hown
          go_wp2
          go_roundg (N - (i + 1))
          case measure => have := HD.out; omega
          case rel => exact ⟨i + 1, HD.out, rfl, by rw [HS8.out], hown2, hk2⟩
    · obtain rfl : i = N := by omega
      have hIl : ¬ (I : Int) < (bs.length : Int) := by have := HN.out; omega
      have hIlb : decide (I < bs.length) = false := decide_eq_false (by have := HN.out; omega)
      have hfin : FreshV 5 w (bys (packB bs)) (.returned u3) wr := by
        refine ⟨u3, rfl, ?_, hk⟩
        rw [List.take_of_length_le (by rw [packB_length, HN.out]; exact Nat.le_refl _)] at hown
        rw [bys_length, packB_length, ← HN.out]; exact hown
      have HF := Lib.hid hfin
      clear hfin hown hI
      go_wp2
      go_ret
      exact HF.out

/-- What Row answers. -/
def RowOf (w : World) (x : Nat) (z : Int) (e : Ending) (w' : World) : Prop :=
  if 0 ≤ z ∧ z ≤ 64 then ∃ v, e = .returned (.tuple #[v, .bool (decide (x / 2 ^ z.toNat = 0))]) ∧ w'.ownsRow w.heap.size 3 1 v z.toNat (ints (bitsN x z.toNat)) ∧ Kept (fun _ => False) w w'
  else e = .returned (.tuple #[.slice none 0 0, .bool false]) ∧ w = w'

set_option maxHeartbeats 2000000 in
set_option maxRecDepth 100000 in
theorem refRow_any (x : Nat) (z : Int) (hx : x < 18446744073709551616) (w : World) :
    Calls Tryd.prog 51 #[.int .u64 x, .int .i64 z] w (RowOf w x z) := by
  obtain ⟨i0, hi, hz0, hz1, hz2⟩ := info_parts Tryd.infoInt
  by_cases h1 : z < 0
  · have HR : Hid (∀ e w', (e = .returned (.tuple #[.slice none 0 0, .bool false]) ∧ w = w') → RowOf w x z e w') := Lib.hid fun e w' h => by unfold RowOf; rw [if_neg (by omega)]; exact h
    go_enter Tryd.func51, Tryd.ntmps51
    go_wp2
    go_ret2
    exact HR.out _ _ ⟨rfl, rfl⟩
  · by_cases h2 : 64 < z
    · have HR : Hid (∀ e w', (e = .returned (.tuple #[.slice none 0 0, .bool false]) ∧ w = w') → RowOf w x z e w') := Lib.hid fun e w' h => by unfold RowOf; rw [if_neg (by omega)]; exact h
      go_enter Tryd.func51, Tryd.ntmps51
      go_wp2
      go_ret2
      exact HR.out _ _ ⟨rfl, rfl⟩
    · obtain ⟨n, rfl⟩ : ∃ n : Nat, z = n := ⟨z.toNat, by omega⟩
      have HR : Hid (∀ e w', (∃ v, e = .returned (.tuple #[v, .bool (decide (x / 2 ^ n = 0))]) ∧ w'.ownsRow w.heap.size 3 1 v n (ints (bitsN x n)) ∧ Kept (fun _ => False) w w') → RowOf w x n e w') := Lib.hid fun e w' h => by unfold RowOf; rw [if_pos ⟨by omega, by omega⟩, Int.toNat_natCast]; exact h
      have hst : w.ownsRow w.heap.size 3 1 (.slice none 0 0) 0 (ints (bitsN x 0)) := World.ownsRow_nil _ _ _ _
      go_enter Tryd.func51, Tryd.ntmps51
      go_wp2
      go_loopg [0, 6, 7] n (fun g s0 s6 s7 wr => ∃ i : Nat, i ≤ n ∧ g = n - i ∧ s7 = .int .i64 i ∧ s0 = .int .u64 ((x / 2 ^ i : Nat) : Int) ∧ wr.ownsRow w.heap.size 3 1 s6 i (ints (bitsN x i)) ∧ Kept (fun _ => False) w wr)
      case atStart => exact ⟨0, Nat.zero_le _, rfl, rfl, by simp, hst, Kept.refl _ _⟩
      case round =>
        obtain ⟨i, hil, rfl, rfl, rfl, hown, hk⟩ := hrel
        clear hst
        obtain ⟨V, hV⟩ : ∃ V, V = x / 2 ^ i := ⟨_, rfl⟩
        have hVx : V ≤ x := by rw [hV]; exact Nat.div_le_self _ _
        rw [← hV]
        by_cases hd : i < n
        · obtain ⟨y, hy⟩ : ∃ y, y = V % 2 := ⟨_, rfl⟩
          have y1 : (V : Int) % 2 = (y : Int) := by omega
          have y2 : IntKind.i64.wrap (y : Int) = (y : Int) := IntWalk.i64_in _ ⟨by omega, by omega⟩
          obtain ⟨V2, hV2⟩ : ∃ V2, V2 = V / 2 := ⟨_, rfl⟩
          have v1 : (V : Int) / 2 = (V2 : Int) := by omega
          have v0 : (0 : Int) ≤ (V : Int) := by omega
          have v2w : IntKind.u64.wrap (V2 : Int) = (V2 : Int) := by rw [IntKind.wrap_u64]; omega
          have hVn : V2 = x / 2 ^ (i + 1) := by rw [hV2, hV, Nat.pow_succ, Nat.div_div_eq_div_mul]
          have hn : Value.int .i64 (y : Int) :: ints (bitsN x i) = ints (bitsN x (i + 1)) := by
            have e : i + 1 = 1 + i := by omega
            rw [e, bitsN_add, ints_append, ← hV]
            have e2 : bitsN V 1 = [V.testBit 0] := rfl
            rw [e2, hy]
            simp only [ints, List.map_cons, List.map_nil, List.cons_append, List.nil_append]
            congr 2
            rw [Nat.testBit_zero]
            by_cases h : V % 2 = 1
            · simp [h]
            · have h0 : V % 2 = 0 := by omega
              simp [h0]
          have HVN := Lib.hid hVn
          have HNN := Lib.hid hn
          have hsrc := (SlAt.ofOwn (hown.alloc (.cells #[.int .i64 (y : Int)] 3))).src (P := Tryd.prog) Tryd.underlying26 (ints_one _)
          rw [ints_length, bitsN_length] at hsrc
          have hlit : (wr.alloc (.cells #[.int .i64 (y : Int)] 3)).ownsRow w.heap.size 3 1 (.slice (some ⟨wr.heap.size, 0, none⟩) 1 1) 1 [.int .i64 (y : Int)] := World.ownsRow_lit wr #[.int .i64 (y : Int)] 1 hk.size (by unfold maxLen; omega) rfl
          have HD := Lib.hid hd
          have hdi : (i : Int) < (n : Int) := by omega
          have hdib : decide (i < n) = true := decide_eq_true hd
          clear hV hy hV2 hVn hn hd hVx
          go_wp2_with (at_builtin; refine wpList_append_src _ rfl (.tmp 22) (.tmp 23) 26 26 rfl w.heap.size 3 i0 (.int .i64 0) 1 8 Tryd.underlying26 hi hz0 hz1 hz2 rfl (.slice (some ⟨wr.heap.size, 0, none⟩) 1 1) 1 [.int .i64 (y : Int)] rfl hlit u6 i (ints (bitsN x i)) rfl hsrc ?c1 ?c2 ?c3 ?_)
          case c1 => unfold maxLen; omega
          case c2 => omega
          case c3 => have := hk.size; simp; omega
          intro v2 w2 hown2 hg _ hat
          rw [HNN.out, Nat.add_comm] at hown2
          have hk2 := own_kept (hk.alloc (.cells #[.int .i64 (y : Int)] 3)) (Kept.refl _ _) hlit hg
          clear hg hat hown hsrc hlit
          go_wp2
          go_roundg (n - (i + 1))
          case measure => have := HD.out; omega
          case rel => exact ⟨i + 1, HD.out, rfl, by go_num, by rw [HVN.out], hown2, hk2⟩
        · obtain rfl : i = n := by omega
          have hfin : ∀ b, b = decide (V = 0) → RowOf w x i (.returned (.tuple #[u6, .bool b])) wr := fun b hb => HR.out _ _ ⟨u6, by rw [hb, hV], hown, hk⟩
          have HF := Lib.hid hfin
          have hv0 : ((V : Int) == 0) = decide (V = 0) := by
            rw [Bool.eq_iff_iff]; simp
          clear hV hfin hown hVx
          go_wp2
          go_ret2
          exact HF.out _ (by simp)
end Go.Proofs.YtjpnfadmblmjbaaDoor
