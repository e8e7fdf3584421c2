/- package limnographref06: Small. -/
import Derived.Test.YtjpnfadmblmjbaaDoorV9
import Derived.Test.YtjpnfadmblmjbaaDoorVB17
namespace Go.Proofs.YtjpnfadmblmjbaaDoor
open Go.RowKit
attribute [local go_sem ↓] Go.wp_at_zero Go.wp_at_succ

theorem row_of (x n : Nat) (hn : n ≤ 64) (hx : x < 18446744073709551616) (w : World) :
    Calls Tryd.prog 51 #[.int .u64 x, .int .i64 n] w fun e w' => ∃ a c b, e = .returned (.tuple #[.slice a n c, .bool b]) ∧ w'.ownsRow w.heap.size 3 1 (.slice a n c) n (ints (bitsN x n)) ∧ Kept (fun _ => False) w w' := by
  refine (refRow_any x n hx w).mono ?_
  intro e w' h
  unfold RowOf at h
  rw [if_pos ⟨by omega, by omega⟩, Int.toNat_natCast] at h
  obtain ⟨v, rfl, ho, hk⟩ := h
  obtain ⟨a, c, rfl⟩ := ownsRow_slice ho
  exact ⟨a, c, _, rfl, ho, hk⟩

set_option maxHeartbeats 2000000 in
theorem small_any (v : Nat) (hv : v < 18446744073709551616) (w : World) :
    Calls Tryd.prog 14 #[.int .u64 v] w fun e w' => ∃ vs, e = .returned vs ∧ w'.ownsRow w.heap.size 3 1 vs (smallB v).length (ints (smallB v)) ∧ Kept (fun _ => False) w w' := by
  obtain ⟨iI, hiI, hzI0, hzI1, hzI2⟩ := info_parts Tryd.infoInt
  have hc := classN_le v
  have hsz : sizeC.getD (classN v) 0 ≤ 64 := by
    have hcc : classN v = 0 ∨ classN v = 1 ∨ classN v = 2 ∨ classN v = 3 := by omega
    rcases hcc with h | h | h | h <;> rw [h] <;> decide
  have HC := Lib.hid (refClass_any v hv w)
  have HZ := Lib.hid (refSize_any (classN v) hc)
  have HS : Hid (smallB v = bitsN (classN v) 2 ++ bitsN v (sizeC.getD (classN v) 0)) := Lib.hid rfl
  obtain ⟨C, hCe⟩ : ∃ C, C = classN v := ⟨_, rfl⟩
  rw [← hCe] at HC HZ HS hc hsz
  obtain ⟨S, hSe⟩ : ∃ S, S = sizeC.getD C 0 := ⟨_, rfl⟩
  rw [← hSe] at HZ HS hsz
  have HR1 := Lib.hid (row_of C 2 (by omega) (by omega))
  have HR2 := Lib.hid (row_of v S hsz hv)
  have e1 : IntKind.u64.wrap (C : Int) = (C : Int) := by rw [IntKind.wrap_u64]; omega
  clear hCe hSe
  go_enter Tryd.func14, Tryd.ntmps14
  go_wp2_with (first
    | (go_at_call 50; refine HC.out.mono ?_; rintro e w1 ⟨rfl, hk⟩; have H1 := Lib.hid hk; clear hk)
    | (go_at_call_of 51 C; refine (HR1.out _).mono ?_; rintro e w2 ⟨a2, c2, b2, rfl, ho, hk⟩; have H2 := Lib.hid (H1.out.trans hk); have O2 := Lib.hid (show w2.ownsRow w.heap.size 3 1 (.slice a2 2 c2) 2 (ints (bitsN C 2)) from by rcases ho.2 with h0 | ⟨g, cap, cur, e, hg, rest⟩; exact ⟨ho.1, .inl h0⟩; exact ⟨ho.1, .inr ⟨g, cap, cur, e, Nat.le_trans H1.out.size hg, rest⟩⟩); clear ho hk)
    | (go_at_call 52; refine (HZ.out _).mono ?_; rintro e w3 ⟨rfl, hk⟩; have H3 := Lib.hid (H2.out.trans hk); have O3 := Lib.hid (hk.owns O2.out (fun _ _ x => x)); clear hk)
    | (go_at_call_of 51 S; refine (HR2.out _).mono ?_; rintro e w4 ⟨a4, c4, b4, rfl, ho, hk⟩; have H4 := Lib.hid (H3.out.trans hk); have O4 := Lib.hid (hk.owns O3.out (fun _ _ x => x)); have R4 := Lib.hid (SlAt.ofOwn ho); clear ho hk)
    | (at_builtin; refine wpList_append_src _ rfl (.tmp 23) (.tmp 24) 26 26 rfl w.heap.size 3 iI (.int .i64 0) 1 8 Tryd.underlying26 hiI hzI0 hzI1 hzI2 rfl (.slice a2 2 c2) 2 (ints (bitsN C 2)) rfl O4.out (.slice a4 S c4) S (ints (bitsN v S)) rfl ?cs ?c1 ?c2 ?c3 ?_))
  case cs => have := R4.out.src (P := Tryd.prog) Tryd.underlying26 (ints_one _); rw [ints_length, bitsN_length] at this; exact this
  case c1 => unfold maxLen; omega
  case c2 => omega
  case c3 => exact H4.out.size
  intro vs w5 hown hg _ hat
  have HF : w5.ownsRow w.heap.size 3 1 vs (smallB v).length (ints (smallB v)) ∧ Kept (fun _ => False) w w5 := by
    refine ⟨?_, H4.out.grown hg (fun k e hlt => by have := (ownsRow_lt O4.out e).2; omega)⟩
    rw [HS.out, List.length_append, bitsN_length, bitsN_length]
    simpa [ints] using hown
  have HFF := Lib.hid HF
  clear HF hown hg hat
  go_wp2
  go_ret
  exact ⟨_, rfl, HFF.out⟩
end Go.Proofs.YtjpnfadmblmjbaaDoor
