/- The document's answers for layer 1: Bits, Number, Bytes, Row, Open. -/
import Derived.Test.YtjpnfadmblmjbaaDoorVB5
namespace Go.Proofs.YtjpnfadmblmjbaaDoor
open Go.RowKit
attribute [local go_sem ↓] Go.wp_at_zero Go.wp_at_succ

theorem Tryd.infoInt : (Tryd.prog.info? 3).map (fun i => (i.zero, i.size, i.bytes)) = some (some (.int .i64 0), 1, 8) := by kernel_rfl

/-- Noughts and ones as values. -/
def ints (l : List Bool) : List Value := l.map fun b => Value.int .i64 ((b.toNat : Nat) : Int)
@[simp] theorem ints_length (l : List Bool) : (ints l).length = l.length := by simp [ints]
theorem ints_append (a b : List Bool) : ints (a ++ b) = ints a ++ ints b := by simp [ints]
theorem ints_one (l : List Bool) : ∀ u ∈ ints l, u.oneCell' = true := by
  intro u hu; obtain ⟨x, _, rfl⟩ := List.mem_map.1 hu; rfl
theorem ints_get {l : List Bool} {j : Nat} (h : j < l.length) : (ints l)[j]? = some (.int .i64 (((l.getD j false).toNat : Nat) : Int)) := by
  simp [ints, List.getD_eq_getElem?_getD, List.getElem?_eq_getElem h]
theorem take_snocB (l : List Bool) (j : Nat) (h : j < l.length) : l.take (j + 1) = l.take j ++ [l.getD j false] := by
  rw [List.take_succ_eq_append_getElem h, List.getD_eq_getElem?_getD, List.getElem?_eq_getElem h]; rfl
theorem take_snocN (l : List Nat) (j : Nat) (h : j < l.length) : l.take (j + 1) = l.take j ++ [l.getD j 0] := by
  rw [List.take_succ_eq_append_getElem h, List.getD_eq_getElem?_getD, List.getElem?_eq_getElem h]; rfl

theorem own_kept {w wr wa w2 : World} {E : TypeId} {v : Value} {n : Nat} {xs : List Value} (hk : Kept (fun _ => False) w wr) (ha : Kept (fun _ => False) wr wa) (ho : wr.ownsRow w.heap.size E 1 v n xs) (hg : wa.grownBy w2 v.ownBlock) : Kept (fun _ => False) w w2 :=
  (hk.trans ha).grown hg (fun k e hlt => by have := (ownsRow_lt ho e).2; omega)

theorem bit_of (x j : Nat) (hj : j < 8) : (x : Int) / ((128 / 2 ^ j : Nat) : Int) % 2 = (((x.testBit (7 - j)).toNat : Nat) : Int) := by
  have e : 128 / 2 ^ j = 2 ^ (7 - j) := by
    have : (128 : Nat) = 2 ^ (7 - j) * 2 ^ j := by rw [← Nat.pow_add, show 7 - j + j = 7 by omega]
    rw [this, Nat.mul_div_cancel _ (Nat.two_pow_pos j)]
  rw [e]
  have h1 : (x : Int) / ((2 ^ (7 - j) : Nat) : Int) = ((x / 2 ^ (7 - j) : Nat) : Int) := by simp
  rw [h1, Nat.testBit_eq_decide_div_mod_eq]
  by_cases h : x / 2 ^ (7 - j) % 2 = 1
  · simp only [h, decide_true, Bool.toNat_true]; omega
  · simp only [h, decide_false, Bool.toNat_false]; omega

set_option maxHeartbeats 2000000 in
set_option maxRecDepth 100000 in
theorem refBits_any (v : Value) (l : List Nat) (w : World) (hv : SlAt w v (bys l)) (hl : l.length ≤ 1000000000) (hb : ∀ x ∈ l, x < 256) :
    Calls Tryd.prog 20 #[v] w (FreshV 3 w (ints (bitsOf l))) := by
  obtain ⟨i0, hi, hz0, hz1, hz2⟩ := info_parts Tryd.infoInt
  have hlen := bys_length l
  have hv0 := Lib.hid hv
  obtain ⟨ao, c, hval, _, _⟩ := hv.val
  rw [hlen] at hval
  subst hval
  have hst : w.ownsRow w.heap.size 3 1 (.slice none 0 0) (8 * 0) (ints (bitsOf (l.take 0))) := World.ownsRow_nil _ _ _ _
  clear hv hlen
  go_enter Tryd.func20, Tryd.ntmps20
  go_wp2
  go_loopg [3, 4] l.length (fun g s3 s4 wr => ∃ i : Nat, i ≤ l.length ∧ g = l.length - i ∧ s4 = .int .i64 i ∧ wr.ownsRow w.heap.size 3 1 s3 (8 * i) (ints (bitsOf (l.take i))) ∧ Kept (fun _ => False) w wr)
  case atStart => exact ⟨0, Nat.zero_le _, rfl, rfl, hst, Kept.refl _ _⟩
  case round =>
    obtain ⟨i, hil, rfl, rfl, hown, hk⟩ := hrel
    clear hst
    by_cases hd : i < l.length
    · obtain ⟨g, off, c', e, hc⟩ := (hv0.out.kept hk (fun _ _ x => x)).addr (by rw [bys_length]; omega)
      rw [bys_length] at e
      injection e with e1 e2 e3
      subst e1
      have hcell := hc i _ (bys_get hd)
      obtain ⟨x, hx⟩ : ∃ x, x = l.getD i 0 := ⟨_, rfl⟩
      rw [← hx] at hcell
      have hx2 : x < 256 := by rw [hx, List.getD_eq_getElem?_getD, List.getElem?_eq_getElem hd]; exact hb _ (List.getElem_mem hd)
      have HX := Lib.hid hx
      have xw : IntKind.i64.wrap (x : Int) = (x : Int) := IntWalk.i64_in _ ⟨by omega, by omega⟩
      have x0 : (0 : Int) ≤ (x : Int) := by omega
      have hdi : (i : Int) < (l.length : Int) := by omega
      have hst2 : wr.ownsRow w.heap.size 3 1 u3 (8 * i + 0) (ints (bitsOf (l.take i) ++ (bitsN x 8).take 0)) := by simpa using hown
      have HD := Lib.hid hd
      have HSTEP : Hid (ints (bitsOf (l.take i) ++ (bitsN x 8).take 8) = ints (bitsOf (l.take (i + 1)))) := by
        show _ = _
        have e8 : (bitsN x 8).take 8 = bitsN x 8 := List.take_of_length_le (by simp)
        rw [take_snocN l i hd, ← hx, bitsOf_append, e8]
        simp [bitsOf]
      clear hc e2 e3 hx hown hd
      obtain ⟨wo, rfl⟩ : ∃ wo : World, wo = wr := ⟨_, rfl⟩
      go_wp2
      go_loopg [3, 6] 8 (fun g t3 t6 wx => ∃ j : Nat, j ≤ 8 ∧ g = 8 - j ∧ t6 = .int .i64 ((128 / 2 ^ j : Nat) : Int) ∧ wx.ownsRow w.heap.size 3 1 t3 (8 * i + j) (ints (bitsOf (l.take i) ++ (bitsN x 8).take j)) ∧ Kept (fun _ => False) w wx)
      case atStart => exact ⟨0, Nat.zero_le _, rfl, rfl, hst2, hk⟩
      case round =>
        obtain ⟨j, hj, rfl, rfl, hown, hkx⟩ := hrel
        clear hst2
        obtain ⟨K, hK⟩ : ∃ K, K = 128 / 2 ^ j := ⟨_, rfl⟩
        by_cases hd : j < 8
        · have hK0 : 0 < K := by rw [hK]; exact Nat.div_pos (Nat.le_of_dvd (by decide) (Nat.pow_dvd_pow 2 (show j ≤ 7 by omega))) (Nat.two_pow_pos j)
          have hK1 : (0 : Int) < (K : Int) := by omega
          obtain ⟨bt, hbt⟩ : ∃ bt, bt = x.testBit (7 - j) := ⟨_, rfl⟩
          have hbit := bit_of x j hd
          rw [← hK, ← hbt] at hbit
          obtain ⟨y, hy⟩ : ∃ y : Nat, y = bt.toNat := ⟨_, rfl⟩
          rw [← hy] at hbit
          obtain ⟨D, hD⟩ : ∃ D, D = x / K := ⟨_, rfl⟩
          have d1 : (x : Int) / (K : Int) = (D : Int) := by rw [hD]; simp
          have hDx : D ≤ x := by rw [hD]; exact Nat.div_le_self _ _
          rw [d1] at hbit
          have d2 : IntKind.i64.wrap (D : Int) = (D : Int) := IntWalk.i64_in _ ⟨by omega, by omega⟩
          have d3 : (0 : Int) ≤ (D : Int) := by omega
          have d4 : (D : Int).tmod 2 = (y : Int) := by rw [Int.tmod_eq_emod_of_nonneg d3]; exact hbit
          clear hD
          have hn : (ints (bitsOf (l.take i) ++ (bitsN x 8).take j) ++ [Value.int .i64 (y : Int)]) = ints (bitsOf (l.take i) ++ (bitsN x 8).take (j + 1)) := by
            rw [take_snocB (bitsN x 8) j (by simpa using hd), bitsN_getD, ← List.append_assoc, ints_append _ [_]]
            simp [ints, hd, hy, hbt]
          have HN := Lib.hid hn
          obtain ⟨K2, hK2⟩ : ∃ K2, K2 = 128 / 2 ^ (j + 1) := ⟨_, rfl⟩
          have hK3 : K2 = K / 2 := by rw [hK2, Nat.pow_succ, ← Nat.div_div_eq_div_mul, ← hK]
          have hK4 : (K : Int) / 2 = (K2 : Int) := by omega
          have hK5 : K ≤ 128 := by rw [hK]; exact Nat.div_le_self _ _
          have hK6 : IntKind.i64.wrap (K2 : Int) = (K2 : Int) := IntWalk.i64_in _ ⟨by omega, by omega⟩
          have HK2 := Lib.hid hK2
          rw [← hK]
          clear hK hn hK2 hK3 hK5 hy hbt
          go_wp2_with (at_builtin; refine wpList_append_src _ rfl (.tmp 22) (.tmp 27) 26 26 rfl w.heap.size 3 i0 (.int .i64 0) 1 8 Tryd.underlying26 hi hz0 hz1 hz2 rfl u3 (8 * i + j) (ints (bitsOf (l.take i) ++ (bitsN x 8).take j)) rfl (hown.alloc _) (.slice (some ⟨wr.heap.size, 0, none⟩) 1 1) 1 [.int .i64 (y : Int)] rfl (src_one wr Tryd.underlying26 (.int .i64 (y : Int)) rfl) ?c1 ?c2 ?c3 ?_)
          case c1 => unfold maxLen; omega
          case c2 => omega
          case c3 => have := hkx.size; simp; omega
          intro v2 w2 hown2 hg _ hat
          rw [HN.out] at hown2
          have hk2 := own_kept hkx ((Kept.refl _ _).alloc _) hown hg
          clear hg hat
          go_wp2
          go_roundg (8 - (j + 1))
          case measure => omega
          case rel => exact ⟨j + 1, by omega, rfl, by rw [HK2.out], hown2, hk2⟩
        · obtain rfl : j = 8 := by omega
          have hK0 : K = 0 := by rw [hK]
          subst hK0
          rw [← hK]
          rw [HSTEP.out] at hown
          go_wp2
          go_roundg (l.length - (i + 1))
          case measure => have := HD.out; omega
          case rel => exact ⟨i + 1, by have := HD.out; omega, rfl, by go_num, hown, hkx⟩
    · obtain rfl : i = l.length := by omega
      go_wp2
      go_ret
      refine ⟨_, rfl, ?_, hk⟩
      rw [List.take_length] at hown
      simpa using hown
end Go.Proofs.YtjpnfadmblmjbaaDoor
