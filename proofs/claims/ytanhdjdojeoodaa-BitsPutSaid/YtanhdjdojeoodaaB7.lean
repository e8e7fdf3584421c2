/- Layer 1: the document's Number and Open; awake. -/
import Derived.Test.YtanhdjdojeoodaaB6
import Derived.Test.YtanhdjdojeoodaaB3
namespace Go.Proofs.Ytanhdjdojeoodaa
open Go.RowKit
attribute [local go_sem ↓] Go.wp_at_zero Go.wp_at_succ

/-- Bytes as a text. -/
def strN (l : List Nat) : ByteArray := strOfNums (l.map fun (n : Nat) => (n : Int))
theorem run_strN {P : Program} {w : World} {v : Value} {l : List Nat} (h : SlAt w v (bys l)) (src e dst : TypeId) (hs : P.underlying src = some (.slice e)) (he : P.underlying e = some (.int .u8)) (hd : P.underlying dst = some .string) :
    (convert src dst v).run P w = .ok (.string (strN l)) w := by
  rcases Nat.eq_zero_or_pos l.length with h0 | h0
  · obtain rfl : l = [] := List.eq_nil_of_length_eq_zero h0
    obtain ⟨ao, c, rfl, hn, hc⟩ := h.val
    cases ao with
    | none => exact run_convert_bytes_nil w src e hs he 0 c dst hd
    | some a =>
      rw [run_convert_bytes_string w src dst e _ _ c hs he hd]
      simp [Conv.bytesToString, loadCells, loadCellsFrom]
      rfl
  · obtain ⟨g, off, c, rfl, hc⟩ := h.addr (by rw [bys_length]; exact h0)
    rw [bys_length]
    have := run_convert_bytes_arg (P := P) w src e hs he g off l.length c (l.map fun (n : Nat) => (n : Int)) (by simp) (fun i hi => by
      rw [hc i _ (bys_get (by simpa using hi))]
      simp [List.getD_eq_getElem?_getD, List.getElem?_eq_getElem hi]) dst hd
    exact this

set_option maxHeartbeats 1000000 in
theorem refNumber_any (v : Value) (bs : List Bool) (w : World) (hv : SlAt w v (ints bs)) (hl : bs.length ≤ 64) :
    Calls Try.prog 30 #[v] w fun e w' => e = .returned (.int .u64 ((numB bs : Nat) : Int)) ∧ w = w' := by
  have hlen := ints_length bs
  have hv0 := Lib.hid hv
  obtain ⟨ao, c, hval, _, _⟩ := hv.val
  rw [hlen] at hval
  subst hval
  clear hv hlen
  go_enter Try.func30, Try.ntmps30
  go_wp2
  go_loopg [3, 4] bs.length (fun g s3 s4 wr => ∃ i : Nat, i ≤ bs.length ∧ g = bs.length - i ∧ s4 = .int .i64 i ∧ s3 = .int .u64 ((numB (bs.take i) : Nat) : Int) ∧ w = wr)
  case atStart => exact ⟨0, Nat.zero_le _, rfl, rfl, rfl, rfl⟩
  case round =>
    obtain ⟨i, hil, rfl, rfl, rfl, rfl⟩ := hrel
    by_cases hd : i < bs.length
    · obtain ⟨g, off, c', e, hc⟩ := hv0.out.addr (by rw [ints_length]; omega)
      rw [ints_length] at e
      injection e with e1 e2 e3
      subst e1
      have hcell := hc i _ (ints_get hd)
      obtain ⟨y, hy⟩ : ∃ y : Nat, y = (bs.getD i false).toNat := ⟨_, rfl⟩
      rw [← hy] at hcell
      have hy1 : y ≤ 1 := by rw [hy]; exact Bool.toNat_le _
      obtain ⟨V, hV⟩ : ∃ V, V = numB (bs.take i) := ⟨_, rfl⟩
      have hVl : V < 2 ^ 63 := by
        have h1 := numB_lt (bs.take i)
        rw [← hV, List.length_take, Nat.min_eq_left hil] at h1
        exact Nat.lt_of_lt_of_le h1 (Nat.pow_le_pow_right (by omega) (by omega))
      have h63 : (2 : Nat) ^ 63 = 9223372036854775808 := by decide
      obtain ⟨X, hX⟩ : ∃ X, X = 2 * V + y := ⟨_, rfl⟩
      have hXn : X = numB (bs.take (i + 1)) := by rw [take_snocB bs i hd, numB_snoc, hX, hV, hy]
      have HX := Lib.hid hXn
      have x1 : IntKind.u64.wrap (2 * (V : Int)) = 2 * (V : Int) := by rw [IntKind.wrap_u64]; omega
      have x2 : 2 * (V : Int) + (y : Int) = (X : Int) := by omega
      have x3 : IntKind.u64.wrap (X : Int) = (X : Int) := by rw [IntKind.wrap_u64]; omega
      have x4 : IntKind.u64.wrap (y : Int) = (y : Int) := by rw [IntKind.wrap_u64]; omega
      have hdi : (i : Int) < (bs.length : Int) := by omega
      have HD := Lib.hid hd
      rw [← hV]
      clear hc e2 e3 hy hV hX hXn hd h63 hVl
      go_wp2
      go_roundg (bs.length - (i + 1))
      case measure => have := HD.out; omega
      case rel => exact ⟨i + 1, by have := HD.out; omega, rfl, by go_num, by rw [HX.out], rfl⟩
    · obtain rfl : i = bs.length := by omega
      go_wp2
      go_ret
      rw [List.take_length]
      exact ⟨rfl, rfl⟩

set_option maxHeartbeats 1000000 in
theorem refOpen_any (v : Value) (l : List Nat) (n : Int) (w : World) (hv : SlAt w v (bys l)) (hl : l.length ≤ 1000000000) (hb : ∀ x ∈ l, x < 256) (hn : n ≤ 9223372036854775807) :
    Calls Try.prog 24 #[v, .int .i64 n] w fun e w' => e = .returned (.int .i64 ((openE l n : Nat) : Int)) ∧ Kept (fun _ => False) w w' := by
  have hlen := bys_length l
  have hB := Lib.hid (refBits_any v l w hv hl hb)
  obtain ⟨ao, c, hval, _, _⟩ := hv.val
  rw [hlen] at hval
  subst hval
  clear hv hlen
  by_cases h1 : n < 0
  · have HE : Hid (openE l n = 1) := by show _ = _; unfold openE; rw [if_pos h1]
    go_enter Try.func24, Try.ntmps24
    go_wp2
    go_ret
    exact ⟨by rw [HE.out]; rfl, Kept.refl _ _⟩
  · by_cases h2 : 8 * (l.length : Int) < n
    · have HE : Hid (openE l n = 2) := by show _ = _; unfold openE; rw [if_neg h1, if_pos h2]
      go_enter Try.func24, Try.ntmps24
      go_wp2
      go_ret
      exact ⟨by rw [HE.out]; rfl, Kept.refl _ _⟩
    · obtain ⟨m, rfl⟩ : ∃ m : Nat, n = m := ⟨n.toNat, by omega⟩
      have s1 : IntKind.i64.wrap (8 * (l.length : Int) - (m : Int)) = 8 * (l.length : Int) - (m : Int) := IntWalk.i64_in _ ⟨by omega, by omega⟩
      by_cases h3 : 7 < 8 * (l.length : Int) - (m : Int)
      · have HE : Hid (openE l m = 3) := by show _ = _; unfold openE; rw [if_neg h1, if_neg h2, if_pos h3]
        go_enter Try.func24, Try.ntmps24
        go_wp2
        go_ret
        exact ⟨by rw [HE.out]; rfl, Kept.refl _ _⟩
      · have HE : Hid (openE l m = if ((bitsOf l).drop m).any id then 3 else 0) := by show _ = _; unfold openE; rw [if_neg h1, if_neg h2, if_neg h3, Int.toNat_natCast]
        have hm8 : m ≤ 8 * l.length := by omega
        go_enter Try.func24, Try.ntmps24
        go_wp2_with fail
        refine hB.out.mono ?_
        rintro e w1 ⟨vb, rfl, hown, hk⟩
        have hvb := SlAt.ofOwn hown
        obtain ⟨ab, cb, hval2, _, _⟩ := hvb.val
        have hbl : (ints (bitsOf l)).length = 8 * l.length := by rw [ints_length, bitsOf_length]
        rw [hbl] at hval2
        subst hval2
        have HV := Lib.hid hvb
        obtain ⟨N, hN⟩ : ∃ N, N = 8 * l.length := ⟨_, rfl⟩
        rw [← hN] at hm8 hbl HV ⊢
        have hNb : (N : Int) ≤ 8000000000 := by omega
        have HN := Lib.hid hN
        have HBL := Lib.hid hbl
        clear hown hvb hN hbl s1 h1 h2 h3
        go_wp2
        go_loopg [6] (N - m) (fun g s6 wr => ∃ i : Nat, m ≤ i ∧ i ≤ N ∧ g = N - i ∧ s6 = .int .i64 i ∧ ((bitsOf l).drop m).any id = ((bitsOf l).drop i).any id ∧ w1 = wr)
        case atStart => exact ⟨m, Nat.le_refl _, hm8, rfl, rfl, rfl, rfl⟩
        case round =>
          obtain ⟨i, hmi, hil, rfl, rfl, hany, rfl⟩ := hrel
          have HA := Lib.hid hany
          clear hany
          have hbN : (bitsOf l).length = N := by rw [bitsOf_length]; exact HN.out.symm
          have HBN := Lib.hid hbN
          clear hbN
          by_cases hd : i < N
          · obtain ⟨g, off, c', e, hc⟩ := HV.out.addr (by rw [HBL.out]; omega)
            rw [HBL.out] at e
            injection e with e1 e2 e3
            subst e1
            have hcell := hc i _ (ints_get (by rw [HBN.out]; exact hd))
            have hdr : (bitsOf l).drop i = (bitsOf l).getD i false :: (bitsOf l).drop (i + 1) := by
              rw [List.getD_eq_getElem?_getD, List.getElem?_eq_getElem (by rw [HBN.out]; exact hd)]
              exact List.drop_eq_getElem_cons (by rw [HBN.out]; exact hd)
            have HDR := Lib.hid hdr
            have hdi : (i : Int) < (N : Int) := by omega
            have HD := Lib.hid hd
            clear hc e2 e3 hdr hd
            cases hbit : (bitsOf l).getD i false with
            | true =>
              rw [hbit] at hcell
              simp only [Bool.toNat_true] at hcell
              have H3 : Hid (openE l m = 3) := by
                show _ = _
                rw [HE.out, HA.out, HDR.out, hbit]; rfl
              clear hbit
              go_wp2
              go_ret
              exact ⟨by rw [H3.out]; rfl, hk⟩
            | false =>
              rw [hbit] at hcell
              simp only [Bool.toNat_false] at hcell
              have H3 : Hid (((bitsOf l).drop m).any id = ((bitsOf l).drop (i + 1)).any id) := by
                show _ = _
                rw [HA.out, HDR.out, hbit]; rfl
              clear hbit
              go_wp2
              go_roundg (N - (i + 1))
              case measure => have := HD.out; omega
              case rel => exact ⟨i + 1, Nat.le_succ_of_le hmi, HD.out, rfl, by go_num, H3.out, rfl⟩
          · obtain rfl : i = N := by omega
            have H3 : Hid (openE l m = 0) := by
              show _ = _
              rw [HE.out, HA.out, List.drop_eq_nil_of_le (by rw [HBN.out]; exact Nat.le_refl _)]; rfl
            go_wp2
            go_ret
            exact ⟨by rw [H3.out]; rfl, hk⟩
end Go.Proofs.Ytanhdjdojeoodaa
