/- package bitio in a seat without Skip: Look, Take (B4 without its end). -/
import Derived.Test.YtjpnfadmblmjbaaDoorB2
namespace Go.Proofs.YtjpnfadmblmjbaaDoor
open Go.RowKit
attribute [local go_sem ↓] Go.wp_at_zero Go.wp_at_succ

/-- A part of a byte, as the program takes it. -/
theorem part_and8 (b e k : Nat) (hb : b < 256) (hk : k ≤ 8) : bits .and .u8 ((b : Int) / 2 ^ e) (IntKind.u8.wrap (IntKind.u8.wrap (2 ^ k) - 1)) = ((b / 2 ^ e % 2 ^ k : Nat) : Int) := by
  have h1 : (2 : Int) ^ k = ((2 ^ k : Nat) : Int) := by simp
  have h2 : 2 ^ k ≤ 2 ^ 8 := Nat.pow_le_pow_right (by omega) hk
  have h3 : 0 < 2 ^ k := Nat.two_pow_pos k
  have h4 : IntKind.u8.wrap (IntKind.u8.wrap (2 ^ k) - 1) = ((2 ^ k - 1 : Nat) : Int) := by rw [h1, IntKind.wrap_u8, IntKind.wrap_u8]; omega
  have h5 : (b : Int) / 2 ^ e = ((b / 2 ^ e : Nat) : Int) := by simp
  have h6 : b / 2 ^ e ≤ b := Nat.div_le_self _ _
  rw [h4, h5]
  generalize b / 2 ^ e = X at *
  rw [u8_and_nat _ _ (by omega) (by omega), Nat.and_two_pow_sub_one_eq_mod]

theorem part_and8' (b e k : Nat) (hb : b < 256) (hk : k ≤ 8) : bits .and .u8 ((b : Int) / 2 ^ e) ((2 ^ k - 1) % 256) = ((b / 2 ^ e % 2 ^ k : Nat) : Int) := by
  rw [← part_and8 b e k hb hk]
  congr 1
  rw [IntKind.wrap_u8, IntKind.wrap_u8]
  omega

theorem or_part (V y k : Nat) (hy : y < 2 ^ k) (hV : V * 2 ^ k + y < 18446744073709551616) :
    bits .or .u64 (IntKind.u64.wrap ((V : Int) * 2 ^ k)) (y : Int) = ((V * 2 ^ k + y : Nat) : Int) := by
  have h1 : (V : Int) * 2 ^ k = ((V * 2 ^ k : Nat) : Int) := by simp
  have h2 : IntKind.u64.wrap ((V * 2 ^ k : Nat) : Int) = ((V * 2 ^ k : Nat) : Int) := by rw [IntKind.wrap_u64]; omega
  rw [h1, h2, u64_or _ _ (by omega) (by omega) (by omega) (by omega)]
  simp only [Int.toNat_natCast]
  rw [Nat.mul_comm, Nat.two_pow_add_eq_or_of_lt hy]

def Looked (w : World) (r : Nat) (is : Bool) (e : Ending) (w' : World) : Prop := e = .returned (.tuple #[.int .u64 (r : Int), .bool is]) ∧ ∃ q, w' = w.drewN q

set_option maxHeartbeats 1000000 in
theorem blook_no (B p : Nat) (v : Value) (bs : List Bool) (t : Nat) (n : Int) (w : World) (HR : BrAt w B p v bs t) (hl : bs.length ≤ 100000000000)
    (hn : n < 0 ∨ 64 < n ∨ ((bs.length - t : Nat) : Int) < n) :
    Calls Tryd.prog 81 #[.pointer (some ⟨p, 0, none⟩), .int .i64 n] w (Looked w 0 false) := by
  by_cases h1 : n < 0
  · go_enter Tryd.func81, Tryd.ntmps81
    go_wp2
    go_ret2
    exact ⟨rfl, 0, rfl⟩
  · by_cases h2 : 64 < n
    · go_enter Tryd.func81, Tryd.ntmps81
      go_wp2
      go_ret2
      exact ⟨rfl, 0, rfl⟩
    · have h3 : ((bs.length - t : Nat) : Int) < n := by omega
      go_enter Tryd.func81, Tryd.ntmps81
      go_wp2_with (go_at_call 32; refine (bleft_any B p v bs t _ HR hl).mono ?_; rintro e w' ⟨rfl, q, rfl⟩)
      go_ret2
      exact ⟨rfl, _, rfl⟩

set_option maxHeartbeats 2000000 in
set_option maxRecDepth 100000 in
theorem blook_yes (B p : Nat) (v : Value) (bs : List Bool) (t n : Nat) (w : World) (HR : BrAt w B p v bs t) (hl : bs.length ≤ 100000000000) (hn : n ≤ 64) (ht : t + n ≤ bs.length) :
    Calls Tryd.prog 81 #[.pointer (some ⟨p, 0, none⟩), .int .i64 n] w (Looked w (numB ((bs.drop t).take n)) true) := by
  have h1 : ¬ (n : Int) < 0 := by omega
  have h2 : ¬ 64 < (n : Int) := by omega
  have h3 : ¬ ((bs.length - t : Nat) : Int) < (n : Int) := by omega
  have hc0 := HR.c0
  have hc2 := HR.c2
  obtain ⟨L, hL⟩ : ∃ L, L = bs.length - t := ⟨_, rfl⟩
  have HLE : Calls Tryd.prog 32 #[.pointer (some ⟨p, 0, none⟩)] w fun e w' => Drew w w' (e = .returned (.int .i64 (L : Int))) := by rw [hL]; exact bleft_any B p v bs t w HR hl
  rw [← hL] at h3
  have h3b : decide (L < n) = false := decide_eq_false (by omega)
  have HLL := Lib.hid hL
  have HLE' := Lib.hid HLE
  clear hL HLE
  have hsl : ∃ ao cp, v = .slice ao (packB bs).length cp := ownsRow_slice HR.owns
  obtain ⟨ao, cp, rfl⟩ := hsl
  go_enter Tryd.func81, Tryd.ntmps81
  go_wp2_with (go_at_call 32; refine HLE'.out.mono ?_; rintro e w' ⟨rfl, q, rfl⟩)
  go_quiet (fail)
  go_wp2
  go_loopg [1, 6, 7] n (fun g s1 s6 s7 wr => ∃ m : Nat, m ≤ n ∧ g = m ∧ s1 = .int .i64 m ∧ s6 = .int .u64 ((numB ((bs.drop t).take (n - m)) : Nat) : Int) ∧ s7 = .int .i64 ((t + (n - m) : Nat) : Int) ∧ ∃ q, wr = w.drewN q)
  case atStart => exact ⟨n, Nat.le_refl _, rfl, rfl, by simp, by simp, _, World.drewN_drewN ..⟩
  case round =>
    obtain ⟨m, hm, rfl, rfl, rfl, rfl, qr, rfl⟩ := hrel
    by_cases hm0 : gk = 0
    · subst hm0
      go_wp2
      go_ret2
      exact ⟨rfl, _, rfl⟩
    · have hm1 : 0 < (gk : Int) := by omega
      obtain ⟨a, ha⟩ : ∃ a, a = t + (n - gk) := ⟨_, rfl⟩
      obtain ⟨V, hV⟩ : ∃ V, V = numB ((bs.drop t).take (n - gk)) := ⟨_, rfl⟩
      have hVl : V < 2 ^ (n - gk) := by
        rw [hV]
        have := numB_lt ((bs.drop t).take (n - gk))
        rwa [List.length_take, List.length_drop, Nat.min_eq_left (by omega)] at this
      rw [← ha, ← hV]
      have haL : a + gk ≤ bs.length := by omega
      obtain ⟨f, hf⟩ : ∃ f, f = 8 - a % 8 := ⟨_, rfl⟩
      have r2 : 8 - (a : Int) % 8 = (f : Int) := by omega
      have hfr : 1 ≤ f ∧ f ≤ 8 := by omega
      obtain ⟨k, hk⟩ : ∃ k, k = min f gk := ⟨_, rfl⟩
      have hk1 : 1 ≤ k ∧ k ≤ f ∧ k ≤ gk := by omega
      have hkc : k = f ∧ f ≤ gk ∨ k = gk ∧ gk < f := by omega
      obtain ⟨q, hq⟩ : ∃ q, q = a / 8 := ⟨_, rfl⟩
      have r5 : (a : Int) / 8 = (q : Int) := by omega
      have hqL : q < (packB bs).length := by rw [packB_length]; omega
      obtain ⟨b, hb⟩ : ∃ b, b = byteAt bs q := ⟨_, rfl⟩
      have hb2 : b < 256 := by rw [hb]; exact byteAt_lt _ _
      have hg : ∃ g, ao = some ⟨g, 0, none⟩ := by
        rcases HR.owns.2 with ⟨e, h0⟩ | ⟨g, cap, cur, e, _⟩
        · rw [h0] at hqL; omega
        · injection e with e1 e2 e3; exact ⟨g, e1⟩
      obtain ⟨g, rfl⟩ := hg
      have hcell : w.cell? ⟨g, q, none⟩ = some (.int .u8 (b : Int)) := by
        rw [HR.owns.cellAt q (by simpa using hqL), bys_get hqL, packB_getD, hb]
      obtain ⟨d, hd⟩ : ∃ d, d = gk - k := ⟨_, rfl⟩
      have r7 : IntKind.i64.wrap ((gk : Int) - (k : Int)) = (d : Int) := by rw [IntWalk.i64_in _ ⟨by omega, by omega⟩]; omega
      have r8 : (gk : Int) - (k : Int) = (d : Int) := by omega
      obtain ⟨e, he⟩ : ∃ e, e = f - k := ⟨_, rfl⟩
      have r9 : IntKind.i64.wrap ((f : Int) - (k : Int)) = (e : Int) := by rw [IntWalk.i64_in _ ⟨by omega, by omega⟩]; omega
      have r10 : (f : Int) - (k : Int) = (e : Int) := by omega
      obtain ⟨s, hs⟩ : ∃ s, s = a + k := ⟨_, rfl⟩
      have ck : (a : Int) + (k : Int) = (s : Int) := by omega
      have cw : IntKind.i64.wrap ((a : Int) + (k : Int)) = (s : Int) := by rw [ck]; exact IntWalk.i64_in _ ⟨by omega, by omega⟩
      have sw : IntKind.i64.wrap (s : Int) = (s : Int) := IntWalk.i64_in _ ⟨by omega, by omega⟩
      obtain ⟨y, hy⟩ : ∃ y, y = b / 2 ^ e % 2 ^ k := ⟨_, rfl⟩
      have hy2 : y < 2 ^ k := by rw [hy]; exact Nat.mod_lt _ (Nat.two_pow_pos k)
      have r11 : bits .and .u8 ((b : Int) / 2 ^ e) (IntKind.u8.wrap (IntKind.u8.wrap (2 ^ k) - 1)) = (y : Int) := by rw [hy]; exact part_and8 b e k hb2 (by omega)
      have r11' : bits .and .u8 ((b : Int) / 2 ^ e) ((2 ^ k - 1) % 256) = (y : Int) := by rw [hy]; exact part_and8' b e k hb2 (by omega)
      have yw2 : IntKind.u64.wrap (y : Int) = (y : Int) := by
        have h6 : 2 ^ k ≤ 2 ^ 8 := Nat.pow_le_pow_right (by omega) (by omega)
        rw [IntKind.wrap_u64]; omega
      have hVX : V * 2 ^ k + y < 18446744073709551616 := by
        have h4 : V * 2 ^ k + y < (V + 1) * 2 ^ k := by rw [Nat.add_mul]; omega
        have h5 : (V + 1) * 2 ^ k ≤ 2 ^ (n - gk) * 2 ^ k := Nat.mul_le_mul_right _ hVl
        rw [← Nat.pow_add] at h5
        have h6 : 2 ^ (n - gk + k) ≤ 2 ^ 64 := Nat.pow_le_pow_right (by omega) (by omega)
        have h7 : (2 : Nat) ^ 64 = 18446744073709551616 := by decide
        omega
      have r12 := or_part V y k hy2 hVX
      obtain ⟨X, hX⟩ : ∃ X, X = V * 2 ^ k + y := ⟨_, rfl⟩
      rw [← hX] at r12
      have hyn : y = numB ((bs.drop a).take k) := by
        rw [hy, hb, hq, he]
        have e1 : f - k = 8 - a % 8 - k := by rw [hf]
        rw [e1]
        exact byte_part bs a k (by omega) (by omega)
      have hXn : X = numB ((bs.drop t).take (n - d)) := by
        have e1 : n - d = (n - gk) + k := by omega
        have hl2 : ((bs.drop a).take k).length = k := by rw [List.length_take, List.length_drop]; omega
        rw [e1, List.take_add, numB_append, List.drop_drop, ← ha, hl2, hX, hV, hyn]
      have hsn : s = t + (n - d) := by omega
      have yw : (y : Int) ≤ 255 := by have h6 : 2 ^ k ≤ 2 ^ 8 := Nat.pow_le_pow_right (by omega) (by omega); omega
      have HH := Lib.hid (And.intro hXn hsn)
      have HKC := Lib.hid hkc
      have qi : (q : Int) < ((packB bs).length : Int) := by omega
      have q0 : (0 : Int) ≤ (q : Int) := by omega
      have qw : IntKind.i64.wrap (q : Int) = (q : Int) := IntWalk.i64_in _ ⟨by omega, by omega⟩
      have a0 : (0 : Int) ≤ (a : Int) := by omega
      have hdg : d < gk := by omega
      have HDG := Lib.hid hdg
      have HDM : Hid (d ≤ n) := Lib.hid (by omega)
      have HKF := Lib.hid hk1
      clear hf hk hq hb hd he hs hy hX hXn hsn hyn hV ha hkc hVX hVl hy2 hb2 hqL haL hdg hk1 hfr
      go_upto_region 6 with fail
      go_cut [8, 9] (fun s8 s9 wd => s8 = .int .i64 f ∧ s9 = .int .i64 k ∧ w.drewN qr = wd)
      case first =>
        rcases HKC.out with ⟨rfl, hc⟩ | ⟨rfl, hc⟩
        · have : (k : Int) ≤ (gk : Int) := by omega
          go_wp2
          go_meet
          case rel => exact ⟨rfl, rfl, rfl⟩
        · have : (k : Int) < (f : Int) := by omega
          go_wp2
          go_meet
          case rel => exact ⟨rfl, rfl, rfl⟩
      case rest =>
        obtain ⟨rfl, rfl, rfl⟩ := hcut
        go_wp2
        go_quiet (fail)
        go_wp2
        go_roundg d
        case measure => exact HDG.out
        case rel => exact ⟨d, HDM.out, rfl, rfl, by rw [HH.out.1], by rw [HH.out.2], _, rfl⟩

/-- What Take leaves. -/
def Taken (w : World) (B p : Nat) (v : Value) (bs : List Bool) (t r : Nat) (is : Bool) (e : Ending) (w' : World) : Prop :=
  e = .returned (.tuple #[.int .u64 (r : Int), .bool is]) ∧ BrAt w' B p v bs t ∧ Kept (fun k => k = p) w w'

theorem BrAt.set {w w2 : World} {B p : Nat} {v : Value} {bs : List Bool} {t t2 q : Nat} (h : BrAt w B p v bs t) (ht : t2 ≤ bs.length) (h2 : w2 = (w.drewN q).setCell ⟨p, 2, none⟩ (.int .i64 (t2 : Int))) :
    BrAt w2 B p v bs t2 ∧ Kept (fun k => k = p) w w2 := by
  subst h2
  refine ⟨⟨h.base, ?_, ?_, h.apart, ht⟩, ((Kept.refl (fun k => k = p) w).drewN q).setCell (fun _ => rfl) _⟩
  · have e : w.heap[p]? = some (.cells #[v, .int .i64 bs.length, .int .i64 t] 88 (0, 0)) := h.box
    simp [World.setCell, Array.getElem?_modify, e]
  · have o : (w.drewN q).ownsRow B 5 1 v (packB bs).length (bys (packB bs)) := h.owns
    exact ((Kept.refl (fun k => k = p) (w.drewN q)).setCell (p := ⟨p, 2, none⟩) (fun _ => rfl) _).owns o (fun k e x => h.apart (by rw [e, x]))

set_option maxHeartbeats 1000000 in
theorem btake_no (B p : Nat) (v : Value) (bs : List Bool) (t : Nat) (n : Int) (w : World) (HR : BrAt w B p v bs t) (hl : bs.length ≤ 100000000000)
    (hn : n < 0 ∨ 64 < n ∨ ((bs.length - t : Nat) : Int) < n) :
    Calls Tryd.prog 57 #[.pointer (some ⟨p, 0, none⟩), .int .i64 n] w (Taken w B p v bs t 0 false) := by
  go_enter Tryd.func57, Tryd.ntmps57
  go_wp2_with fail
  refine (blook_no B p v bs t n w HR hl hn).mono ?_
  rintro e w' ⟨rfl, q, rfl⟩
  go_wp2
  go_ret2
  exact ⟨rfl, HR.drewN q, (Kept.refl _ _).drewN q⟩

set_option maxHeartbeats 1000000 in
theorem btake_yes (B p : Nat) (v : Value) (bs : List Bool) (t n : Nat) (w : World) (HR : BrAt w B p v bs t) (hl : bs.length ≤ 100000000000) (hn : n ≤ 64) (ht : t + n ≤ bs.length) :
    Calls Tryd.prog 57 #[.pointer (some ⟨p, 0, none⟩), .int .i64 n] w (Taken w B p v bs (t + n) (numB ((bs.drop t).take n)) true) := by
  have hc2 := HR.c2
  have hf2 := HR.free 2
  obtain ⟨R, hR⟩ : ∃ R, R = numB ((bs.drop t).take n) := ⟨_, rfl⟩
  have HL := blook_yes B p v bs t n w HR hl hn ht
  rw [← hR] at HL ⊢
  have HL' := Lib.hid HL
  obtain ⟨s, hs⟩ : ∃ s, s = t + n := ⟨_, rfl⟩
  rw [← hs]
  have ck : (t : Int) + (n : Int) = (s : Int) := by omega
  have cw : IntKind.i64.wrap ((t : Int) + (n : Int)) = (s : Int) := by rw [ck]; exact IntWalk.i64_in _ ⟨by omega, by omega⟩
  have sw : IntKind.i64.wrap (s : Int) = (s : Int) := IntWalk.i64_in _ ⟨by omega, by omega⟩
  have fin := Lib.hid fun q => HR.set (t2 := s) (q := q) (by omega) rfl
  clear HL hR hs
  go_enter Tryd.func57, Tryd.ntmps57
  go_wp2_with fail
  refine HL'.out.mono ?_
  rintro e w' ⟨rfl, q, rfl⟩
  go_wp2
  go_ret2
  exact ⟨rfl, (fin.out q).1, (fin.out q).2⟩
end Go.Proofs.YtjpnfadmblmjbaaDoor
