/- The walk of 'FrameTells', behind its plain facts. -/
import Derived.Test.YtmmaickpkpkajaaDoorF9
namespace Go.Proofs.YtmmaickpkpkajaaDoor
open Go.RowKit
attribute [local go_sem ↓] Go.wp_at_zero Go.wp_at_succ

/-- What Wrap leaves, for a walk that goes on with the frame. -/
def WrapAt (W : World) (l : List Nat) (N9 : Nat) (e : Ending) (w' : World) : Prop :=
  ∃ g cap, e = .returned (.tuple #[.slice (some ⟨g, 0, none⟩) N9 cap, .int .i64 0]) ∧ w'.ownsRow W.heap.size 5 1 (.slice (some ⟨g, 0, none⟩) N9 cap) N9 (b8 (frameL l)) ∧ Kept (fun _ => False) W w'
theorem wrap_at (v : Value) (l : List Nat) (hl : l.length ≤ 65536) (N9 : Nat) (hN : N9 = 9 + l.length) (W w : World) (hk : Kept (fun _ => False) W w) (HB : Row8 W v l) (HN : Nibs W) :
    Calls Tryd.prog 10 #[v] w (WrapAt W l N9) := by
  refine (wrap_any v l hl w (HB.kept hk) (HN.kept hk)).mono ?_
  rintro e w2 ⟨v, rfl, ho, hk2⟩
  rw [← hN] at ho
  obtain ⟨g, cap, rfl, hg, hcap⟩ := own_at ho (by omega)
  exact ⟨g, cap, rfl, own_weaken ho hk.size, hk.trans hk2⟩
theorem own_cell {w : World} {B g cap n : Nat} {l : List Nat} (h : w.ownsRow B 5 1 (.slice (some ⟨g, 0, none⟩) n cap) n (b8 l)) (k : Nat) (hk : k < l.length) : w.cell? ⟨g, k, none⟩ = some (.int .u8 ((l.getD k 0 : Nat) : Int)) := by
  have := h.cells (g := g) rfl k _ (b8_at l k hk)
  have e : (⟨g, 0, none⟩ : Addr).add k = ⟨g, k, none⟩ := by unfold Addr.add; split <;> simp_all
  rwa [e] at this
theorem own_free {w : World} {B g cap n : Nat} {E : TypeId} {xs : List Value} (h : w.ownsRow B E 1 (.slice (some ⟨g, 0, none⟩) n cap) n xs) (k : Nat) : w.frozen? ⟨g, k, none⟩ = false := by
  obtain ⟨cur, hc⟩ := ownsRow_block h (k := g) rfl
  simp [World.frozen?, hc]
theorem own_ge {w : World} {B g cap n : Nat} {E : TypeId} {xs : List Value} (h : w.ownsRow B E 1 (.slice (some ⟨g, 0, none⟩) n cap) n xs) : B ≤ g := (ownsRow_lt h (k := g) rfl).2

set_option maxHeartbeats 1000000 in
theorem frameTells_good (ao bo : Option Addr) (c d : Nat) (l r : List Nat) (k b : Nat) (W : World) (HB : Row8 W (.slice ao l.length c) l) (HR : Row8 W (.slice bo r.length d) r) (HN : Nibs W)
    (hl : l.length ≤ 3000) (hr : r.length ≤ 3000) (h5 : 5 ≤ k) (hk : k < 9 + l.length) (h0 : 0 < b) (hb : b < 256) :
    Calls Tryd.prog 7 #[.slice ao l.length c, .int .i64 k, .int .u8 b, .slice bo r.length d] W fun e w' => e = .returned (.bool true) ∧ Kept (fun _ => False) W w' := by
  obtain ⟨i0, hi, hz0, hz1, hz2⟩ := info_parts info_u8
  have HA := Lib.hid (awake_any W HN)
  have hlb := HB.lt
  have c1 : decide ((3000 : Int) < (l.length : Int)) = false := decide_eq_false (by omega)
  have c2 : decide ((3000 : Int) < (r.length : Int)) = false := decide_eq_false (by omega)
  obtain ⟨N9, hN9⟩ : ∃ N9, N9 = 9 + l.length := ⟨_, rfl⟩
  have c3 : decide ((k : Int) < 5) = false := decide_eq_false (by omega)
  have c4 : decide ((N9 : Int) ≤ (k : Int)) = false := decide_eq_false (by omega)
  have c5 : ((b : Int) == 0) = false := beq_eq_false_iff_ne.2 (by omega)
  have k0 : (0 : Int) ≤ (k : Int) := by omega
  have k1 : (k : Int) < (N9 : Int) := by omega
  have hNl : N9 ≤ 3009 := by omega
  have HW := Lib.hid (fun w h => wrap_at (.slice ao l.length c) l (by omega) N9 hN9 W w h HB HN)
  have hfl : (frameL l).length = N9 := by rw [frameL_len, hN9]
  have HT := Lib.hid (frame_turn l r k b (by omega) hlb h5 hk h0 hb)
  have hX := getD_lt (frameL_lt l hlb) (j := k) (by omega)
  have HXX := xor8 ((frameL l).getD k 0) b hX hb
  have HL := Lib.hid (set_lt (frameL_lt l hlb) (Nat.xor_lt_two_pow (n := 8) hX hb) (j := k))
  have HCE : Hid (∀ (w : World) (g cap : Nat), w.ownsRow W.heap.size 5 1 (.slice (some ⟨g, 0, none⟩) N9 cap) N9 (b8 (frameL l)) → w.cell? ⟨g, k, none⟩ = some (.int .u8 (((frameL l).getD k 0 : Nat) : Int))) := Lib.hid fun w g cap h => own_cell h k (by omega)
  obtain ⟨X, hXe⟩ : ∃ X, X = (frameL l).getD k 0 := ⟨_, rfl⟩
  rw [← hXe] at HT HXX HL HCE
  obtain ⟨Y, hY⟩ : ∃ Y, Y = X ^^^ b := ⟨_, rfl⟩
  rw [← hY] at HT HXX HL
  have HFL := Lib.hid hfl
  have HR' := Lib.hid HR
  have HRB := Lib.hid HR.lt
  have HN' := Lib.hid HN
  have hr' := hr
  clear HB HN HR hlb h5 hk h0 hfl hX hXe hY hl hN9
  go_enter Tryd.func7, Tryd.ntmps7
  go_wp2_with (first
    | (go_at_call 8; refine HA.out.mono ?_; rintro e w1 ⟨rfl, hk1⟩; have H1 := Lib.hid hk1; clear hk1)
    | (go_at_call 10; refine (HW.out _ H1.out).mono ?_; intro e w2 h1; obtain ⟨g, cap, rfl, ho, hk⟩ := h1; have hcell := HCE.out _ _ _ ho; have hfree := own_free ho k; have HO := Lib.hid ho; have HK := Lib.hid hk; clear ho hk)
    | (at_builtin; refine wpList_append_src _ rfl (.tmp 57) (.tmp 58) 22 22 rfl W.heap.size 5 i0 (.int .u8 0) 1 1 Tryd.underlying22 hi hz0 hz1 hz2 rfl (.slice (some ⟨g, 0, none⟩) N9 cap) N9 (b8 ((frameL l).set k Y)) rfl ?c0 (.slice bo r.length d) r.length (b8 r) rfl ?cs ?c1 ?c2 ?c3 ?_))
  case c0 => rw [b8_set]; exact owns_set HO.out k _
  case cs => exact (HR'.out.kept (HK.out.setCell (fun x => by have := own_ge HO.out; simp only at x; omega) _)).src'
  case c1 => simp [maxLen]; omega
  case c2 => omega
  case c3 => have := HK.out.size; simpa [World.setCell] using this
  intro v3 w3 hown hgr _ hat
  have K2 : Kept (fun _ => False) W (w2.setCell ⟨g, k, none⟩ (.int .u8 (Y : Int))) := HK.out.setCell (fun x => by have := own_ge HO.out; simp only at x; omega) _
  have K3 : Kept (fun _ => False) W w3 := K2.grown hgr (fun q e hlt => by have := own_ge HO.out; simp [Value.ownBlock] at e; omega)
  have O3 : w3.ownsRow W.heap.size 5 1 v3 (N9 + r.length) (b8 ((frameL l).set k Y ++ r)) := by rw [b8_append]; exact hown
  obtain ⟨g3, cap3, rfl, _, hcap3⟩ := own_at O3 (by omega)
  have R3 := row8_own (l := (frameL l).set k Y ++ r) (by intro x hx; rcases List.mem_append.1 hx with h | h; exact HL.out x h; exact HRB.out x h) O3
  have hl3 : ((frameL l).set k Y ++ r).length = N9 + r.length := by rw [List.length_append, List.length_set, HFL.out]
  have S3 := first_any (some ⟨g3, 0, none⟩) cap3 ((frameL l).set k Y ++ r) (by omega) (by omega) w3 (by rw [hl3]; exact R3) (HN'.out.kept K3)
  rw [hl3] at S3
  have S4 := Lib.hid (S3.mono fun e w' h => show e = .returned (.tuple #[.slice none 0 0, .int .i64 0, .int .i64 5]) ∧ Kept (fun _ => False) w3 w' by
    unfold Firsted at h; rw [HT.out, if_neg (by omega)] at h; exact h)
  have HK3 := Lib.hid K3
  clear S3 K3 K2 R3 O3 hown hgr hat hl3 hcap3
  go_wp2_with (go_at_call 12; refine S4.out.mono ?_; rintro e w4 ⟨rfl, hk⟩; have HK4 := Lib.hid hk; clear hk)
  go_ret
  exact ⟨rfl, HK3.out.trans HK4.out⟩
end Go.Proofs.YtmmaickpkpkajaaDoor
