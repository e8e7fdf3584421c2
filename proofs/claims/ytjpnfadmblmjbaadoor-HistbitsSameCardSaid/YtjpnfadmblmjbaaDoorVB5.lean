/- package bitio: NewReader. -/
import Derived.Test.YtjpnfadmblmjbaaDoorV4
import Derived.WideShapes
namespace Go.Proofs.YtjpnfadmblmjbaaDoor
open Go.RowKit
attribute [local go_sem ↓] Go.wp_at_zero Go.wp_at_succ

theorem any_bitsN (b k : Nat) : (bitsN b k).any id = decide (b % 2 ^ k ≠ 0) := by
  rw [Bool.eq_iff_iff, List.any_eq_true, decide_eq_true_iff]
  constructor
  · rintro ⟨x, hx, hid⟩
    simp only [id] at hid
    subst hid
    obtain ⟨i, hi, e⟩ := List.getElem_of_mem hx
    have h1 := bitsN_get b k i
    rw [List.getElem?_eq_getElem hi, e] at h1
    rw [bitsN_length] at hi
    rw [if_pos hi] at h1
    intro h0
    have h2 := Nat.testBit_mod_two_pow b k (k - 1 - i)
    rw [h0] at h2
    injection h1 with h1
    rw [← h1] at h2
    simp at h2
    omega
  · intro h0
    obtain ⟨i, hi⟩ := Nat.exists_testBit_of_ne_zero h0
    rw [Nat.testBit_mod_two_pow] at hi
    simp at hi
    refine ⟨true, ?_, rfl⟩
    have h1 := bitsN_get b k (k - 1 - i)
    rw [if_pos (by omega)] at h1
    have e : k - 1 - (k - 1 - i) = i := by omega
    rw [e, hi.2] at h1
    exact List.mem_of_getElem? h1

/-- What NewReader says. -/
def openE (l : List Nat) (n : Int) : Nat :=
  if n < 0 then 1 else if 8 * (l.length : Int) < n then 2 else if 7 < 8 * (l.length : Int) - n then 3 else if ((bitsOf l).drop n.toNat).any id then 3 else 0

theorem bitsOf_drop (l : List Nat) (n : Nat) (h1 : n ≤ 8 * l.length) (h2 : 8 * l.length ≤ n + 7) (h3 : 0 < n % 8) : (bitsOf l).drop n = bitsN (l.getD (n / 8) 0) (8 - n % 8) := by
  have hq : n / 8 < l.length := by omega
  have hsp : l = l.take (n / 8) ++ [l.getD (n / 8) 0] := by
    have h4 : l.take (n / 8 + 1) = l := List.take_of_length_le (by omega)
    rw [List.take_succ_eq_append_getElem hq] at h4
    rw [List.getD_eq_getElem?_getD, List.getElem?_eq_getElem hq]
    exact h4.symm
  obtain ⟨b, hb⟩ : ∃ b, b = l.getD (n / 8) 0 := ⟨_, rfl⟩
  rw [← hb] at hsp ⊢
  rw [hsp, bitsOf_append, List.drop_append, List.drop_eq_nil_of_le (by rw [bitsOf_length, List.length_take]; omega), List.nil_append, bitsOf_length, List.length_take, Nat.min_eq_left (by omega)]
  have e : n - 8 * (n / 8) = n % 8 := by omega
  rw [e]
  have e2 : bitsOf [b] = bitsN (b / 2 ^ (8 - n % 8)) (n % 8) ++ bitsN b (8 - n % 8) := by
    rw [← bitsN_add]
    have e3 : n % 8 + (8 - n % 8) = 8 := by omega
    rw [e3]; simp [bitsOf]
  rw [e2, List.drop_append, List.drop_eq_nil_of_le (by simp), bitsN_length]
  simp

theorem open_rest (l : List Nat) (n : Nat) (h1 : n ≤ 8 * l.length) (h2 : 8 * l.length ≤ n + 7) :
    ((bitsOf l).drop n).any id = (decide (0 < n % 8) && decide (l.getD (n / 8) 0 % 2 ^ (8 - n % 8) ≠ 0)) := by
  by_cases h : 0 < n % 8
  · rw [bitsOf_drop l n h1 h2 h, any_bitsN]; simp [h]
  · rw [List.drop_eq_nil_of_le (by simp; omega)]; simp [h]

theorem packB_open (l : List Nat) (n : Nat) (hb : ∀ x ∈ l, x < 256) (h1 : n ≤ 8 * l.length) (h2 : 8 * l.length ≤ n + 7) (h3 : ((bitsOf l).drop n).any id = false) : packB ((bitsOf l).take n) = l := by
  symm
  have hlen : ((bitsOf l).take n).length = n := by rw [List.length_take, bitsOf_length]; omega
  apply packB_eq (by rw [hlen]; omega)
  intro j hj
  rw [byteAt_take, byteAt_bitsOf l j hb, List.getElem?_eq_getElem hj]
  have e : l.getD j 0 = l[j] := by rw [List.getD_eq_getElem?_getD, List.getElem?_eq_getElem hj]; rfl
  rw [open_rest l n h1 h2] at h3
  by_cases hq : j = n / 8
  · rw [if_pos hq]
    have h4 : 0 < n % 8 := by omega
    simp only [h4, decide_true, Bool.true_and, ne_eq, decide_not, Bool.not_eq_false', decide_eq_true_eq] at h3
    rw [← hq] at h3
    have h5 := Nat.div_add_mod (l.getD j 0) (2 ^ (8 - n % 8))
    rw [h3, Nat.add_zero, Nat.mul_comm] at h5
    rw [h5, e]
  · rw [if_neg hq, if_pos (by omega), e]

theorem shl8_ne (b r : Nat) (hr : r ≤ 8) : ((b : Int) * 2 ^ r % 256 != 0) = decide (b % 2 ^ (8 - r) ≠ 0) := by
  have h1 : (b : Int) * 2 ^ r = ((b * 2 ^ r : Nat) : Int) := by simp
  have e : (256 : Nat) = 2 ^ (8 - r) * 2 ^ r := by
    have h0 : 8 - r + r = 8 := by omega
    rw [← Nat.pow_add, h0]
  have h2 : b * 2 ^ r % 256 = b % 2 ^ (8 - r) * 2 ^ r := by rw [e, Nat.mul_mod_mul_right]
  rw [h1]
  have h3 : ((b * 2 ^ r : Nat) : Int) % 256 = ((b * 2 ^ r % 256 : Nat) : Int) := by omega
  rw [h3, h2]
  have h4 : 0 < 2 ^ r := Nat.two_pow_pos r
  rw [Bool.eq_iff_iff, bne_iff_ne, decide_eq_true_iff]
  constructor
  · intro h5 h6; rw [h6] at h5; simp at h5
  · intro h5 h6
    have h7 : b % 2 ^ (8 - r) * 2 ^ r = 0 := by omega
    rcases Nat.mul_eq_zero.1 h7 with h | h <;> omega

/-- What a good NewReader leaves. -/
def Opened (w : World) (bs : List Bool) (e : Ending) (w' : World) : Prop :=
  ∃ p v, e = .returned (.tuple #[.pointer (some ⟨p, 0, none⟩), .int .i64 0]) ∧ BrAt w' w.heap.size p v bs 0 ∧ Kept (fun _ => False) w w'
def NotOpened (w : World) (c : Nat) (e : Ending) (w' : World) : Prop := e = .returned (.tuple #[.pointer none, .int .i64 (c : Int)]) ∧ w = w'

set_option maxHeartbeats 1000000 in
theorem bopen_no (v : Value) (l : List Nat) (n : Int) (w : World) (hv : SlAt w v (bys l)) (hl : l.length ≤ 1000000000) (hn : n ≤ 9223372036854775807) (hE : openE l n ≠ 0) :
    Calls Tryd.prog 19 #[v, .int .i64 n] w (NotOpened w (openE l n)) := by
  have hlen := bys_length l
  by_cases h1 : n < 0
  · have HE : Hid (openE l n = 1) := by show _ = _; unfold openE; rw [if_pos h1]
    clear hE
    obtain ⟨ao, c, rfl, hz, hc⟩ := hv.val
    clear hv hz hc
    go_enter Tryd.func19, Tryd.ntmps19
    go_wp2
    go_ret2
    exact ⟨by rw [HE.out]; rfl, rfl⟩
  · by_cases h2 : 8 * (l.length : Int) < n
    · have HE : Hid (openE l n = 2) := by show _ = _; unfold openE; rw [if_neg h1, if_pos h2]
      clear hE
      obtain ⟨ao, c, rfl, hz, hc⟩ := hv.val
      rw [bys_length]
      clear hv hz hc hlen
      go_enter Tryd.func19, Tryd.ntmps19
      go_wp2
      go_ret2
      exact ⟨by rw [HE.out]; rfl, rfl⟩
    · obtain ⟨m, rfl⟩ : ∃ m : Nat, n = m := ⟨n.toNat, by omega⟩
      by_cases h3 : 7 < 8 * (l.length : Int) - (m : Int)
      · have HE : Hid (openE l m = 3) := by show _ = _; unfold openE; rw [if_neg h1, if_neg h2, if_pos h3]
        clear hE
        obtain ⟨ao, c, rfl, hz, hc⟩ := hv.val
        rw [bys_length]
        obtain ⟨L, hL⟩ : ∃ L, L = (m + 7) / 8 := ⟨_, rfl⟩
        have hs : ∀ w, Calls Tryd.prog 54 #[.int .i64 (m : Int)] w fun e w' => e = .returned (.int .i64 (L : Int)) ∧ w = w' := fun w => by rw [hL]; exact bsize_any m (by omega) w
        have HS := Lib.hid hs
        have h4 : (L : Int) < (l.length : Int) := by omega
        have h4b : L < l.length := by omega
        clear hv hz hc hlen hs hL h3
        go_enter Tryd.func19, Tryd.ntmps19
        go_wp2_with (go_at_call 54; refine (HS.out _).mono ?_; rintro e w' ⟨rfl, rfl⟩)
        go_ret2
        exact ⟨by rw [HE.out]; rfl, rfl⟩
      · have h5 : ((bitsOf l).drop m).any id = true := by
          have h6 := hE
          unfold openE at h6
          rw [if_neg h1, if_neg h2, if_neg h3] at h6
          simp only [Int.toNat_natCast] at h6
          by_cases h7 : ((bitsOf l).drop m).any id = true
          · exact h7
          · rw [if_neg h7] at h6; exact absurd rfl h6
        have HE : Hid (openE l m = 3) := by show _ = _; unfold openE; rw [if_neg h1, if_neg h2, if_neg h3]; simp only [Int.toNat_natCast]; rw [if_pos h5]
        rw [open_rest l m (by omega) (by omega)] at h5
        simp only [Bool.and_eq_true, decide_eq_true_eq] at h5
        obtain ⟨h6, h7⟩ := h5
        obtain ⟨g, off, c, rfl, hc⟩ := hv.addr (by rw [hlen]; omega)
        rw [hlen]
        obtain ⟨r, hr⟩ : ∃ r, r = m % 8 := ⟨_, rfl⟩
        obtain ⟨q, hq⟩ : ∃ q, q = m / 8 := ⟨_, rfl⟩
        rw [← hr] at h6 h7
        rw [← hq] at h7
        obtain ⟨b, hb⟩ : ∃ b, b = l.getD q 0 := ⟨_, rfl⟩
        rw [← hb] at h7
        have hcell := hc q _ (bys_get (by omega))
        rw [← hb] at hcell
        have r1 : (m : Int) % 8 = (r : Int) := by omega
        have r2 : (m : Int) / 8 = (q : Int) := by omega
        have r3 : IntKind.i64.wrap (q : Int) = (q : Int) := IntWalk.i64_in _ ⟨by omega, by omega⟩
        have r4 : (0 : Int) ≤ (q : Int) := by omega
        have r5 : (q : Int) < (l.length : Int) := by omega
        have r6 : (0 : Int) < (r : Int) := by omega
        have r7 : ((b : Int) * 2 ^ r % 256 != 0) = true := by rw [shl8_ne b r (by omega)]; exact decide_eq_true h7
        obtain ⟨L, hL⟩ : ∃ L, L = (m + 7) / 8 := ⟨_, rfl⟩
        have hs : ∀ w, Calls Tryd.prog 54 #[.int .i64 (m : Int)] w fun e w' => e = .returned (.int .i64 (L : Int)) ∧ w = w' := fun w => by rw [hL]; exact bsize_any m (by omega) w
        have HS := Lib.hid hs
        have h4 : ¬ (L : Int) < (l.length : Int) := by omega
        have h4b : decide (L < l.length) = false := decide_eq_false (by omega)
        clear hv hc hlen hs hL h3 hr hq hb h7 hE
        go_enter Tryd.func19, Tryd.ntmps19
        go_wp2_with (go_at_call 54; refine (HS.out _).mono ?_; rintro e w' ⟨rfl, rfl⟩)
        go_ret2
        exact ⟨by rw [HE.out]; rfl, rfl⟩

set_option maxHeartbeats 1000000 in
theorem bopen_yes (v : Value) (l : List Nat) (n : Nat) (w : World) (hv : SlAt w v (bys l)) (hl : l.length ≤ 1000000000) (hb : ∀ x ∈ l, x < 256) (hE : openE l n = 0) :
    Calls Tryd.prog 19 #[v, .int .i64 n] w (Opened w ((bitsOf l).take n)) := by
  have hlen := bys_length l
  have h1 : ¬ (n : Int) < 0 := by omega
  by_cases h2 : 8 * (l.length : Int) < (n : Int)
  · unfold openE at hE; rw [if_neg h1, if_pos h2] at hE; exact absurd hE (by decide)
  · by_cases h3 : 7 < 8 * (l.length : Int) - (n : Int)
    · unfold openE at hE; rw [if_neg h1, if_neg h2, if_pos h3] at hE; exact absurd hE (by decide)
    · have h5 : ((bitsOf l).drop n).any id = false := by
        unfold openE at hE
        rw [if_neg h1, if_neg h2, if_neg h3] at hE
        simp only [Int.toNat_natCast] at hE
        by_cases h7 : ((bitsOf l).drop n).any id = true
        · rw [if_pos h7] at hE; exact absurd hE (by decide)
        · simpa using h7
      have hpk := packB_open l n hb (by omega) (by omega) h5
      have hbl : ((bitsOf l).take n).length = n := by rw [List.length_take, bitsOf_length]; omega
      have hcl : ∀ w, SlAt w v (bys l) → Calls Tryd.prog 53 #[v] w (FreshV 5 w (bys l)) := fun w h => bclone_any v (bys l) w h (bys_one l) (by rw [hlen]; omega)
      have HCL := Lib.hid (hcl w hv)
      have fin : ∀ (w' : World) (vv : Value), w'.ownsRow w.heap.size 5 1 vv (bys l).length (bys l) → Kept (fun _ => False) w w' → Opened w ((bitsOf l).take n) (.returned (.tuple #[.pointer (some ⟨w'.heap.size, 0, none⟩), .int .i64 0])) (w'.alloc (.cells #[vv, .int .i64 n, .int .i64 0] 88)) := by
        intro w' vv hown hk
        refine ⟨w'.heap.size, vv, rfl, ⟨hk.size, ?_, ?_, ?_, Nat.zero_le _⟩, hk.alloc _⟩
        · rw [hbl]; exact heap_alloc_new w' _
        · rw [hpk]; rw [hlen] at hown; exact hown.alloc _
        · intro h
          have := (ownsRow_lt hown h).1
          omega
      have FIN := Lib.hid fin
      rw [open_rest l n (by omega) (by omega)] at h5
      obtain ⟨L, hL⟩ : ∃ L, L = (n + 7) / 8 := ⟨_, rfl⟩
      have hs : ∀ w, Calls Tryd.prog 54 #[.int .i64 (n : Int)] w fun e w' => e = .returned (.int .i64 (L : Int)) ∧ w = w' := fun w => by rw [hL]; exact bsize_any n (by omega) w
      have HS := Lib.hid hs
      have h4 : ¬ (L : Int) < (l.length : Int) := by omega
      have h4b : decide (L < l.length) = false := decide_eq_false (by omega)
      obtain ⟨r, hr⟩ : ∃ r, r = n % 8 := ⟨_, rfl⟩
      have r1 : (n : Int) % 8 = (r : Int) := by omega
      rw [← hr] at h5
      by_cases h6 : 0 < r
      · obtain ⟨q, hq⟩ : ∃ q, q = n / 8 := ⟨_, rfl⟩
        rw [← hq] at h5
        obtain ⟨b, hbq⟩ : ∃ b, b = l.getD q 0 := ⟨_, rfl⟩
        rw [← hbq] at h5
        obtain ⟨g, off, c, rfl, hc⟩ := hv.addr (by rw [hlen]; omega)
        have hcell := hc q _ (bys_get (by omega))
        rw [← hbq] at hcell
        have r2 : (n : Int) / 8 = (q : Int) := by omega
        have r3 : IntKind.i64.wrap (q : Int) = (q : Int) := IntWalk.i64_in _ ⟨by omega, by omega⟩
        have r4 : (0 : Int) ≤ (q : Int) := by omega
        have r5 : (q : Int) < (l.length : Int) := by omega
        have r6 : (0 : Int) < (r : Int) := by omega
        have r7 : ((b : Int) * 2 ^ r % 256 != 0) = false := by
          rw [shl8_ne b r (by omega)]
          simpa [h6] using h5
        rw [hlen] at HCL ⊢
        clear hv hc hs hL h3 hr hq hbq h5 hE hpk hbl hcl fin
        rw [hlen] at FIN
        clear hlen
        go_enter Tryd.func19, Tryd.ntmps19
        go_wp2_with (go_at_call 54; refine (HS.out _).mono ?_; rintro e w' ⟨rfl, rfl⟩)
        refine HCL.out.mono ?_
        rintro e w' ⟨vv, rfl, hown, hk⟩
        rw [bys_length] at hown
        have fin2 := Lib.hid (FIN.out _ _ hown hk)
        obtain ⟨a', c', rfl⟩ := ownsRow_slice hown
        clear hown hk
        go_wp2
        go_ret2
        exact fin2.out
      · have r6 : decide (0 < r) = false := decide_eq_false h6
        have r6b : ¬ (0 : Int) < (r : Int) := by omega
        obtain ⟨ao, c, rfl, hz, hc⟩ := hv.val
        rw [hlen] at HCL ⊢
        clear hv hc hz hs hL h3 hr h6 h5 hE hpk hbl hcl fin
        rw [hlen] at FIN
        clear hlen
        go_enter Tryd.func19, Tryd.ntmps19
        go_wp2_with (go_at_call 54; refine (HS.out _).mono ?_; rintro e w' ⟨rfl, rfl⟩)
        refine HCL.out.mono ?_
        rintro e w' ⟨vv, rfl, hown, hk⟩
        rw [bys_length] at hown
        have fin2 := Lib.hid (FIN.out _ _ hown hk)
        obtain ⟨a', c', rfl⟩ := ownsRow_slice hown
        clear hown hk
        go_wp2
        go_ret2
        exact fin2.out
end Go.Proofs.YtjpnfadmblmjbaaDoor
