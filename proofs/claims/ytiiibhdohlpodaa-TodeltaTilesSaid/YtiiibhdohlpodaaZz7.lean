/- Texts put together: what the theorem stands on. -/
import Derived.Test.YtiiibhdohlpodaaZz4
import Derived.Test.YtiiibhdohlpodaaRows
import Derived.Laws.Externs
import Derived.Laws.OwnMore
import Derived.Deep.RegionLaw

namespace Go.Proofs.Ytiiibhdohlpodaa
end Go.Proofs.Ytiiibhdohlpodaa
namespace Go.Proofs.Ytiiibhdohlpodaa
open Go.RowKit
attribute [local go_sem ↓] Go.wp_at_zero Go.wp_at_succ
end Go.Proofs.Ytiiibhdohlpodaa
namespace Go.Proofs.Ytiiibhdohlpodaa
open Go.RowKit
attribute [local go_sem ↓] Go.wp_at_zero Go.wp_at_succ
end Go.Proofs.Ytiiibhdohlpodaa
namespace Go.Proofs.Ytiiibhdohlpodaa
open Go.RowKit
attribute [local go_sem ↓] Go.wp_at_zero Go.wp_at_succ
end Go.Proofs.Ytiiibhdohlpodaa
namespace Go.Proofs.Ytiiibhdohlpodaa
open Go.RowKit
attribute [local go_sem ↓] Go.wp_at_zero Go.wp_at_succ
end Go.Proofs.Ytiiibhdohlpodaa
namespace Go.Proofs.Ytiiibhdohlpodaa
open Go.RowKit
attribute [local go_sem ↓] Go.wp_at_zero Go.wp_at_succ
/-- What a bucket holds. -/
def atN (o : Int) (l : List Nat) (i : Int) : Nat := if o ≤ i ∧ i < o + (l.length : Int) then l.getD (i - o).toNat 0 else 0
set_option maxHeartbeats 1000000 in
theorem histAt_any (o i : Int) (l : List Nat) (v : Value) (w : World) (hv : SlAt w v (uvals l)) (ho : I64 o) (hi : I64 i) (hl : l.length ≤ 1000000) :
    Calls Try.prog 119 #[.agg #[.int .i64 o, v], .int .i64 i] w fun e w' => e = .returned (.int .u64 ((atN o l i : Nat) : Int)) ∧ Kept (fun _ => False) w w' := by
  obtain ⟨h0, h1⟩ := ho
  obtain ⟨i0, i1⟩ := hi
  have hv1 := hv.kept ((Kept.refl (fun _ => False) w).alloc (.cells #[.int .i64 o, v] 28)) (fun _ _ x => x)
  obtain ⟨ao, c, hval, _, _⟩ := hv.val
  rw [uvals_length] at hval
  subst hval
  by_cases h : i < o
  · have e : atN o l i = 0 := by unfold atN; rw [if_neg (by omega)]
    rw [e]
    clear hv hv1 e
    go_enter Try.func119, Try.ntmps119
    go_wp2
    go_ret
    exact ⟨rfl, (Kept.refl _ _).alloc _⟩
  · obtain ⟨k, hk⟩ : ∃ k : Nat, (k : Int) = i - o := ⟨(i - o).toNat, by omega⟩
    have ui := uN_u64 i
    have uo := uN_u64 o
    have hui : ((uN i : Nat) : Int) = i % 18446744073709551616 := by rw [← ui, IntKind.wrap_u64]
    have huo : ((uN o : Nat) : Int) = o % 18446744073709551616 := by rw [← uo, IntKind.wrap_u64]
    have uk : IntKind.u64.wrap (((uN i : Nat) : Int) - ((uN o : Nat) : Int)) = (k : Int) := by rw [IntKind.wrap_u64, hui, huo]; omega
    obtain ⟨UI, hUI⟩ : ∃ U, U = uN i := ⟨_, rfl⟩
    obtain ⟨UO, hUO⟩ : ∃ U, U = uN o := ⟨_, rfl⟩
    rw [← hUI] at ui uk
    rw [← hUO] at uo uk
    have ul : IntKind.u64.wrap (l.length : Int) = (l.length : Int) := by rw [IntKind.wrap_u64]; omega
    by_cases hlt : l.length ≤ k
    · have e : atN o l i = 0 := by unfold atN; rw [if_neg (by omega)]
      have q : (l.length : Int) ≤ (k : Int) := by omega
      have qb : decide (l.length ≤ k) = true := decide_eq_true hlt
      rw [e]
      clear hv hv1 e hk hUI hUO hui huo hlt
      go_enter Try.func119, Try.ntmps119
      go_wp2
      go_ret
      exact ⟨rfl, (Kept.refl _ _).alloc _⟩
    · have hkl : k < l.length := by omega
      have e : atN o l i = l.getD k 0 := by
        unfold atN
        rw [if_pos (by omega)]
        congr 1; omega
      have q : ¬ (l.length : Int) ≤ (k : Int) := by omega
      have qb : decide (l.length ≤ k) = false := decide_eq_false hlt
      obtain ⟨g, off, e1, c0⟩ := hv1.elem (uvals_get hkl)
      subst e1
      obtain ⟨x, hx⟩ : ∃ x, x = l.getD k 0 := ⟨_, rfl⟩
      rw [← hx] at c0 e
      rw [e]
      have k0 : (0 : Int) ≤ (k : Int) := by omega
      have k1 : (k : Int) < (l.length : Int) := by omega
      clear hv hv1 e hk hUI hUO hui huo hlt hx
      go_enter Try.func119, Try.ntmps119
      go_wp2
      go_ret
      exact ⟨rfl, (Kept.refl _ _).alloc _⟩
end Go.Proofs.Ytiiibhdohlpodaa
namespace Go.Proofs.Ytiiibhdohlpodaa
open Go.RowKit
attribute [local go_sem ↓] Go.wp_at_zero Go.wp_at_succ
end Go.Proofs.Ytiiibhdohlpodaa
namespace Go.Proofs.Ytiiibhdohlpodaa
open Go.RowKit
attribute [local go_sem ↓] Go.wp_at_zero Go.wp_at_succ
/-- What a side is without empty buckets at its ends. -/
def TrimOf (o : Int) (l : List Nat) (o' : Int) (l' : List Nat) : Prop :=
  ((∀ j, j < l.length → l.getD j 0 = 0) ∧ o' = 0 ∧ l' = []) ∨
  ∃ a b, a < b ∧ b ≤ l.length ∧ (∀ j, j < a → l.getD j 0 = 0) ∧ (∀ j, b ≤ j → j < l.length → l.getD j 0 = 0) ∧ l.getD a 0 ≠ 0 ∧ l.getD (b - 1) 0 ≠ 0 ∧ o' = o + (a : Int) ∧ l' = (l.drop a).take (b - a)
theorem TrimOf.uniq {o : Int} {l : List Nat} {o1 o2 : Int} {l1 l2 : List Nat} (h1 : TrimOf o l o1 l1) (h2 : TrimOf o l o2 l2) : o1 = o2 ∧ l1 = l2 := by
  rcases h1 with ⟨z1, rfl, rfl⟩ | ⟨a, b, hab, hb, ha0, hb0, hna, hnb, rfl, rfl⟩
  · rcases h2 with ⟨_, rfl, rfl⟩ | ⟨a, b, hab, hb, _, _, hna, _⟩
    · exact ⟨rfl, rfl⟩
    · exact absurd (z1 a (by omega)) hna
  · rcases h2 with ⟨z2, rfl, rfl⟩ | ⟨a', b', hab', hb', ha0', hb0', hna', hnb', rfl, rfl⟩
    · exact absurd (z2 a (by omega)) hna
    · have e1 : a = a' := by
        rcases Nat.lt_trichotomy a a' with h | h | h
        · exact absurd (ha0' a h) hna
        · exact h
        · exact absurd (ha0 a' h) hna'
      have e2 : b = b' := by
        rcases Nat.lt_trichotomy b b' with h | h | h
        · exact absurd (hb0 (b' - 1) (by omega) (by omega)) hnb'
        · exact h
        · exact absurd (hb0' (b - 1) (by omega) (by omega)) hnb
      subst e1 e2
      exact ⟨rfl, rfl⟩
/-- What a call answers that makes a side. -/
def SideOut (w : World) (P : Int → List Nat → Prop) (e : Ending) (w' : World) : Prop := ∃ o' l' v', P o' l' ∧ e = .returned (.agg #[.int .i64 o', v']) ∧ Mine w w' 25 v' (uvals l')
theorem two_kept {W w : World} {g : Nat} {x y : Value} (h : Kept (fun _ => False) W w) (hg : W.heap.size ≤ g) : Kept (fun _ => False) W ((w.setCell ⟨g, 0, none⟩ x).setCell ⟨g, 1, none⟩ y) :=
  (h.setCell (p := ⟨g, 0, none⟩) (fun hlt => by simp only at hlt; omega) x).setCell (p := ⟨g, 1, none⟩) (fun hlt => by simp only at hlt; omega) y
theorem Mine.setBox {W w : World} {E : TypeId} {v : Value} {xs : List Value} {q : Nat} {o : Int} {v0 : Value} (h : Mine W w E v xs) (hb : SideBox w q o v0) (hE : E ≠ 28) (hq : W.heap.size ≤ q) (x y : Value) : Mine W ((w.setCell ⟨q, 0, none⟩ x).setCell ⟨q, 1, none⟩ y) E v xs :=
  h.keptS (((Kept.refl (fun k => k = q) w).setCell (p := ⟨q, 0, none⟩) (fun _ => rfl) x).setCell (p := ⟨q, 1, none⟩) (fun _ => rfl) y) (fun k e x => own_box h.own hb hE (by rw [e, x])) (fun k e => by omega)
set_option maxHeartbeats 4000000 in
set_option maxRecDepth 100000 in
theorem histTrim_any (o : Int) (l : List Nat) (v : Value) (w : World) (hv : SlAt w v (uvals l)) (hcap : ∀ a n c, v = .slice a n c → n ≤ c) (ho : -4000000000000000000 ≤ o ∧ o ≤ 4000000000000000000) (hl : l.length ≤ 1000000) :
    Calls Try.prog 120 #[.agg #[.int .i64 o, v]] w (SideOut w (TrimOf o l)) := by
  obtain ⟨h0, h1⟩ := ho
  have hv0 := Lib.hid hv
  obtain ⟨ao, c, hval, _, _⟩ := hv.val
  rw [uvals_length] at hval
  subst hval
  have hcp := hcap _ _ _ rfl
  clear hv hcap
  go_enter Try.func120, Try.ntmps120
  go_wp2
  go_quiet (fail)
  obtain ⟨w2, hw2⟩ : ∃ w2, w2 = (((w.alloc (.cells #[.int .i64 o, .slice ao l.length c] 28)).alloc (.cells #[.int .i64 0, .slice none 0 0] 28)).drewN nq) := ⟨_, rfl⟩
  have k2 : Kept (fun _ => False) w w2 := by rw [hw2]; exact (((Kept.refl _ w).alloc _).alloc _).drewN _
  have bx : SideBox w2 w.heap.size o (.slice ao l.length c) := by
    rw [hw2]
    exact (((Kept.refl (fun _ => False) (w.alloc (.cells #[.int .i64 o, .slice ao l.length c] 28))).alloc _).drewN nq).same (heap_alloc_new w _) (fun x => x)
  have rx : SideBox w2 (w.heap.size + 1) 0 (.slice none 0 0) := by
    rw [hw2]
    have := heap_alloc_new (w.alloc (.cells #[.int .i64 o, .slice ao l.length c] 28)) (.cells #[.int .i64 0, .slice none 0 0] 28)
    simpa [SideBox] using this
  rw [← hw2]
  have K2 := Lib.hid k2
  have RX := Lib.hid rx
  have BX := Lib.hid bx
  obtain ⟨⟨b0, b1⟩, _⟩ := bx.c
  have HCELL := Lib.hid fun j (hj : j < l.length) => (hv0.out.kept K2.out (fun _ _ x => x)).elem (uvals_get hj)
  clear hw2 k2 bx rx
  go_wp2
  go_loopg [3] l.length (fun g s3 wr => ∃ i : Nat, i ≤ l.length ∧ g = l.length - i ∧ s3 = .int .i64 i ∧ (∀ j, j < i → l.getD j 0 = 0) ∧ w2 = wr)
  case atStart => exact ⟨0, Nat.zero_le _, rfl, rfl, fun j h => by omega, rfl⟩
  case round =>
    obtain ⟨i, hil, rfl, rfl, hz, rfl⟩ := hrel
    have HZ := Lib.hid hz
    have i0 : (0 : Int) ≤ (i : Int) := by omega
    clear hz
    by_cases hgo : i < l.length ∧ l.getD i 0 = 0
    · obtain ⟨hd, hx⟩ := hgo
      have hdi : (i : Int) < (l.length : Int) := by omega
      obtain ⟨g, off, rfl, c0⟩ := HCELL.out i hd
      rw [hx] at c0
      have c0' : w2.cell? ⟨g, off + i, none⟩ = some (.int .u64 0) := c0
      have HD := Lib.hid hd
      have HZ2 := Lib.hid (show ∀ j, j < i + 1 → l.getD j 0 = 0 from fun j hj => by
        by_cases e : j = i
        · rw [e]; exact hx
        · exact HZ.out j (by omega))
      clear c0 hx hd
      go_wp2
      go_roundg (l.length - (i + 1))
      case measure => have := HD.out; omega
      case rel => exact ⟨i + 1, HD.out, rfl, by go_num, HZ2.out, rfl⟩
    · have hstop : i = l.length ∨ (i < l.length ∧ l.getD i 0 ≠ 0) := by
        by_cases e : i = l.length
        · exact .inl e
        · exact .inr ⟨by omega, fun h => hgo ⟨by omega, h⟩⟩
      clear hgo
      rcases hstop with rfl | ⟨hd, hx⟩
      · have HF : Hid (TrimOf o l 0 []) := Lib.hid (.inl ⟨HZ.out, rfl, rfl⟩)
        clear hil HCELL
        go_wp2
        go_loopg [4] 0 (fun g s4 wr => g = 0 ∧ s4 = .int .i64 l.length ∧ w2 = wr)
        case atStart => exact ⟨rfl, rfl, rfl⟩
        case round =>
          obtain ⟨rfl, rfl, rfl⟩ := hrel
          obtain ⟨⟨r0, r1⟩, f0, f1⟩ := RX.out.c
          go_wp2
          refine side_end (o := 0) (v := .slice none 0 0) Try.results120 rfl rfl (RX.out.set 0 (.slice none 0 0)) ?_
          exact ⟨0, [], _, HF.out, rfl, Mine.nil' _ (two_kept K2.out (by omega))⟩
      · have hdi : (i : Int) < (l.length : Int) := by omega
        obtain ⟨g, off, rfl, c0⟩ := HCELL.out i hd
        have HCE := Lib.hid fun j (hj : j < l.length) => show w2.cell? ⟨g, off + j, none⟩ = some (.int .u64 ((l.getD j 0 : Nat) : Int)) from by
          obtain ⟨_, _, e', b⟩ := HCELL.out j hj
          injection e' with e'; injection e' with e1 e2; subst e1; subst e2
          exact b
        obtain ⟨x, hxe⟩ : ∃ x, x = l.getD i 0 := ⟨_, rfl⟩
        rw [← hxe] at c0 hx
        have q : ((x : Int) == 0) = false := beqF (by omega)
        have HXE := Lib.hid hxe
        have HXN := Lib.hid hx
        have HD := Lib.hid hd
        clear hxe hx hd hil HCELL
        go_wp2
        go_loopg [4] l.length (fun g' s4 wr => ∃ b : Nat, i < b ∧ b ≤ l.length ∧ g' = b ∧ s4 = .int .i64 b ∧ (∀ j, b ≤ j → j < l.length → l.getD j 0 = 0) ∧ w2 = wr)
        case atStart => exact ⟨l.length, HD.out, Nat.le_refl _, rfl, rfl, fun j h1 h2 => by omega, rfl⟩
        case round =>
          obtain ⟨b, hib, hbl, rfl, rfl, hz2, rfl⟩ := hrel
          have HZ2 := Lib.hid hz2
          obtain ⟨b', hb'⟩ : ∃ b', b' = gk - 1 := ⟨_, rfl⟩
          have hbi : (i : Int) < (gk : Int) := by omega
          have e1 : IntKind.i64.wrap ((gk : Int) - 1) = (b' : Int) := by rw [IntWalk.i64_in _ ⟨by omega, by omega⟩]; omega
          have e2 : (gk : Int) - 1 = (b' : Int) := by omega
          have b'0 : (0 : Int) ≤ (b' : Int) := by omega
          have b'l : (b' : Int) < (l.length : Int) := by omega
          have cb := HCE.out b' (by omega)
          obtain ⟨y, hye⟩ : ∃ y, y = l.getD b' 0 := ⟨_, rfl⟩
          rw [← hye] at cb
          clear hz2
          by_cases hy : y = 0
          · have hne : b' ≠ i := by
              intro e
              rw [e, ← HXE.out] at hye
              exact HXN.out (by rw [← hye]; exact hy)
            have qy : ((y : Int) == 0) = true := beqT (by omega)
            have HZ3 := Lib.hid (show ∀ j, b' ≤ j → j < l.length → l.getD j 0 = 0 from fun j h1 h2 => by
              by_cases e : j = b'
              · rw [e, ← hye]; exact hy
              · exact HZ2.out j (by omega) h2)
            have HB := Lib.hid (show i < b' ∧ b' ≤ l.length ∧ b' < gk by omega)
            clear hye hy hb' hbl hib hne
            go_wp2
            go_roundg b'
            case measure => exact HB.out.2.2
            case rel => exact ⟨b', HB.out.1, HB.out.2.1, rfl, rfl, HZ3.out, rfl⟩
          · have qy : ((y : Int) == 0) = false := beqF (by omega)
            have hne : ((i : Int) == (gk : Int)) = false := beqF (by omega)
            have HF : Hid (TrimOf o l (o + (i : Int)) ((l.drop i).take (gk - i))) := Lib.hid (.inr ⟨i, gk, hib, hbl, HZ.out, HZ2.out, by rw [← HXE.out]; exact HXN.out, by rw [← hb', ← hye]; exact hy, rfl, rfl⟩)
            have ow : IntKind.i64.wrap (o + (i : Int)) = o + (i : Int) := IntWalk.i64_in _ ⟨by omega, by omega⟩
            obtain ⟨n, hn⟩ : ∃ n, n = gk - i := ⟨_, rfl⟩
            obtain ⟨iU, hiU, hzU0, hzU1, hzU2⟩ := info_parts Try.infoU64
            have hct := hv0.out.cut (lo := i) (hi := gk) (by omega) (by omega) hcp
            obtain ⟨ao2, hao2⟩ : ∃ a : Option Addr, a = if c = i then some ⟨g, off, none⟩ else (some (⟨g, off, none⟩ : Addr)).map (·.add i) := ⟨_, rfl⟩
            rw [← hao2, ← hn] at hct
            have hbx : ((uvals l).drop i).take n = uvals ((l.drop i).take n) := by unfold uvals; rw [List.map_take, List.map_drop]
            rw [hbx] at hct
            rw [← hn] at HF
            have s1 : ∀ w, (Instr.slice 26 (.slice (some ⟨g, off, none⟩) l.length c) (some (.int .i64 (i : Int))) (some (.int .i64 (gk : Int))) none).run Try.prog w = .ok (.slice ao2 n (c - i)) w := fun w => by
              have := run_cut (P := Try.prog) Try.underlying26 hiU hzU1 (some ⟨g, off, none⟩) l.length c i gk (by omega) (by omega) w
              rw [← hao2, ← hn] at this; exact this
            have s2 : ∀ w, (Instr.sliceAt 26 (.slice (some ⟨g, off, none⟩) l.length c) (some (.int .i64 (i : Int))) (some (.int .i64 (gk : Int))) none).run Try.prog w = .ok (.slice ao2 n (c - i)) w := fun w => by
              have := run_cutAt (P := Try.prog) Try.underlying26 hiU hzU1 (some ⟨g, off, none⟩) l.length c i gk (by omega) (by omega) w
              rw [← hao2, ← hn] at this; exact this
            have HCL := Lib.hid fun w' (h : Kept (fun _ => False) w w') => sclone_any _ _ w' (hct.kept h (fun _ _ x => x)) (uvals_one _) (by rw [uvals_length, List.length_take, List.length_drop]; omega)
            have kd : Kept (fun _ => False) w w2.drew := K2.out.drew
            clear hye hy hb' hbl hib hn hao2 hct hbx c0
            go_wp2
            go_region_held3 (fun w' => w'.cell? ⟨w.heap.size, 0, none⟩ = some (.int .i64 o) ∧ w'.cell? ⟨w.heap.size, 1, none⟩ = some (.slice (some ⟨g, off, none⟩) l.length c)) (first | exact ⟨b0, b1⟩ | exact HB3.out | go_keep)
              (first
                | (go_at_call 73; refine (HCL.out _ (by assumption)).mono ?_; rintro e w3 ⟨v3, rfl, hm3⟩; obtain ⟨a3, c3, rfl⟩ := hm3.slice; have HM3 := Lib.hid (hm3.down kd); have bx3 := (BX.out.same ((Kept.refl (fun _ => False) w2).drew.trans hm3.kept) (fun x => x)); have HB3 := Lib.hid bx3.c.1; have rx3 := RX.out.same ((Kept.refl (fun _ => False) w2).drew.trans hm3.kept) (fun x => x); have RX3 := Lib.hid rx3; have r0 := rx3.c.1.1; have r1 := rx3.c.1.2; have f0 := rx3.c.2.1; have f1 := rx3.c.2.2; clear hm3 bx3 rx3)
                | fail)
            go_wp2
            refine side_end (o := o + (i : Int)) (v := .slice a3 (uvals ((l.drop i).take n)).length c3) Try.results120 rfl rfl (RX3.out.set _ _) ?_
            exact ⟨o + (i : Int), _, _, HF.out, rfl, HM3.out.setBox RX3.out (by decide) (by omega) _ _⟩
end Go.Proofs.Ytiiibhdohlpodaa
namespace Go.Proofs.Ytiiibhdohlpodaa
/-- Which bucket a bucket of a side goes to. -/
def dIdx (o : Int) (b i : Nat) : Nat := ((o + (i : Int)) / 2 ^ b - o / 2 ^ b).toNat
theorem pow2_pos (b : Nat) : (0 : Int) < 2 ^ b := Int.pow_pos (by omega)
theorem dIdx_eq (o : Int) (b i : Nat) : ((dIdx o b i : Nat) : Int) = (o + (i : Int)) / 2 ^ b - o / 2 ^ b := by
  have : o / 2 ^ b ≤ (o + (i : Int)) / 2 ^ b := Int.ediv_le_ediv (pow2_pos b) (by omega)
  unfold dIdx; omega
theorem dIdx_mono (o : Int) (b i j : Nat) (h : i ≤ j) : dIdx o b i ≤ dIdx o b j := by
  have : (o + (i : Int)) / 2 ^ b ≤ (o + (j : Int)) / 2 ^ b := Int.ediv_le_ediv (pow2_pos b) (by omega)
  have h1 := dIdx_eq o b i
  have h2 := dIdx_eq o b j
  omega
theorem dIdx_zero (o : Int) (b : Nat) : dIdx o b 0 = 0 := by
  have := dIdx_eq o b 0
  simp at this; omega
/-- How many buckets there are. -/
def dWidth (o : Int) (n b : Nat) : Nat := if n = 0 then 0 else dIdx o b (n - 1) + 1
theorem dIdx_lt (o : Int) (n b i : Nat) (h : i < n) : dIdx o b i < dWidth o n b := by
  unfold dWidth
  rw [if_neg (by omega)]
  have := dIdx_mono o b i (n - 1) (by omega)
  omega
theorem dIdx_le (o : Int) (b i : Nat) : dIdx o b i ≤ i := by
  have h := dIdx_eq o b i
  have h1 : (o + (i : Int)) / 2 ^ b ≤ o / 2 ^ b + (i : Int) := by
    have hp := pow2_pos b
    have h2 : o + (i : Int) ≤ o + (i : Int) * 2 ^ b := by
      have : (i : Int) * 1 ≤ (i : Int) * 2 ^ b := Int.mul_le_mul_of_nonneg_left (by omega) (by omega)
      omega
    have h3 := Int.ediv_le_ediv hp h2
    rwa [Int.add_mul_ediv_right _ _ (by omega)] at h3
  omega
theorem dWidth_le (o : Int) (n b : Nat) : dWidth o n b ≤ n := by
  unfold dWidth
  split
  · omega
  · have := dIdx_le o b (n - 1); omega
/-- What comes into a bucket of the first m. -/
def dSum (o : Int) (l : List Nat) (b : Nat) : Nat → Nat → Nat
  | 0, _ => 0
  | m + 1, j => dSum o l b m j + if dIdx o b m = j then l.getD m 0 else 0
theorem dSum_le (o : Int) (l : List Nat) (b m j : Nat) (h : m ≤ l.length) : dSum o l b m j ≤ (l.take m).sum := by
  induction m with
  | zero => simp [dSum]
  | succ m ih =>
    have h1 := sumN_take 0 l m (by omega)
    unfold sumN at h1
    have := ih (by omega)
    simp only [dSum]
    split <;> omega
theorem dSum_le_sum (o : Int) (l : List Nat) (b m j : Nat) (h : m ≤ l.length) : dSum o l b m j ≤ l.sum := by
  have h1 := dSum_le o l b m j h
  have h2 := sumN_le 0 l m
  unfold sumN at h2
  omega
/-- The buckets that come of the first m. -/
def dAcc (o : Int) (l : List Nat) (b m : Nat) : List Nat := (List.range (dWidth o l.length b)).map (dSum o l b m)
@[simp] theorem dAcc_length (o : Int) (l : List Nat) (b m : Nat) : (dAcc o l b m).length = dWidth o l.length b := by simp [dAcc]
theorem dAcc_get (o : Int) (l : List Nat) (b m j : Nat) (h : j < dWidth o l.length b) : (dAcc o l b m).getD j 0 = dSum o l b m j := by
  simp [dAcc, List.getD_eq_getElem?_getD, h]
theorem dAcc_zero (o : Int) (l : List Nat) (b : Nat) : dAcc o l b 0 = List.replicate (dWidth o l.length b) 0 := by
  apply List.ext_getElem?
  intro j
  simp only [dAcc, List.getElem?_map, List.getElem?_replicate]
  by_cases h : j < dWidth o l.length b
  · rw [List.getElem?_range h, if_pos h]; rfl
  · rw [if_neg h, List.getElem?_eq_none (by simp; omega)]; rfl
theorem dAcc_succ (o : Int) (l : List Nat) (b m : Nat) : dAcc o l b (m + 1) = (dAcc o l b m).set (dIdx o b m) (dSum o l b m (dIdx o b m) + l.getD m 0) := by
  apply List.ext_getElem?
  intro j
  rw [List.getElem?_set]
  simp only [dAcc, List.getElem?_map, List.length_map, List.length_range]
  by_cases h : j < dWidth o l.length b
  · rw [List.getElem?_range h]
    by_cases e : dIdx o b m = j
    · rw [if_pos e, if_pos (by omega)]; subst e; simp [dSum]
    · rw [if_neg e]; simp [dSum, e]
  · rw [List.getElem?_eq_none (by simp; omega)]
    by_cases e : dIdx o b m = j
    · rw [if_pos e, if_neg (by omega)]; rfl
    · rw [if_neg e]; rfl
/-- A side, more coarsely. -/
def downL (o : Int) (l : List Nat) (b : Nat) : List Nat := dAcc o l b l.length
def downO (o : Int) (l : List Nat) (b : Nat) : Int := if l.length = 0 then 0 else o / 2 ^ b
@[simp] theorem downL_length (o : Int) (l : List Nat) (b : Nat) : (downL o l b).length = dWidth o l.length b := by simp [downL]
end Go.Proofs.Ytiiibhdohlpodaa
namespace Go.Proofs.Ytiiibhdohlpodaa
open Go.RowKit
attribute [local go_sem ↓] Go.wp_at_zero Go.wp_at_succ
theorem ediv_bound (x : Int) (b : Nat) (M : Int) (h0 : -M ≤ x) (h1 : x ≤ M) (hM : 0 ≤ M) : -M ≤ x / 2 ^ b ∧ x / 2 ^ b ≤ M := by
  have hp := pow2_pos b
  constructor
  · have h2 : -M * 2 ^ b ≤ x := by
      have : M * 1 ≤ M * 2 ^ b := Int.mul_le_mul_of_nonneg_left (by omega) hM
      rw [Int.neg_mul]; omega
    rw [← Int.mul_ediv_cancel (-M) (show (2 : Int) ^ b ≠ 0 by omega)]
    exact Int.ediv_le_ediv hp h2
  · have h2 : x ≤ M * 2 ^ b := by
      have : M * 1 ≤ M * 2 ^ b := Int.mul_le_mul_of_nonneg_left (by omega) hM
      omega
    rw [← Int.mul_ediv_cancel M (show (2 : Int) ^ b ≠ 0 by omega)]
    exact Int.ediv_le_ediv hp h2
set_option maxHeartbeats 1000000 in
theorem histWidth_any (o : Int) (l : List Nat) (b : Nat) (v : Value) (w : World) (hv : SlAt w v (uvals l)) (ho : -1000000000000 ≤ o ∧ o ≤ 1000000000000) (hl : l.length ≤ 1000000) (hb : b ≤ 60) :
    Calls Try.prog 69 #[.agg #[.int .i64 o, v], .int .i64 b] w fun e w' => e = .returned (.int .i64 ((dWidth o l.length b : Nat) : Int)) ∧ Kept (fun _ => False) w w' := by
  obtain ⟨h0, h1⟩ := ho
  obtain ⟨ao, c, hval, _, _⟩ := hv.val
  rw [uvals_length] at hval
  subst hval
  by_cases hz : l.length = 0
  · have e : dWidth o l.length b = 0 := by unfold dWidth; rw [if_pos hz]
    have q : ((l.length : Int) == 0) = true := beqT (by omega)
    rw [e]
    clear hv hz e
    go_enter Try.func69, Try.ntmps69
    go_wp2
    go_ret
    exact ⟨rfl, (Kept.refl _ _).alloc _⟩
  · have q : ((l.length : Int) == 0) = false := beqF (by omega)
    obtain ⟨N, hN⟩ : ∃ N, N = l.length - 1 := ⟨_, rfl⟩
    have hd := dIdx_eq o b N
    have hw : dWidth o l.length b = dIdx o b N + 1 := by unfold dWidth; rw [if_neg hz, hN]
    have b1 := ediv_bound (o + (N : Int)) b 2000000000000 (by omega) (by omega) (by omega)
    have b2 := ediv_bound o b 2000000000000 (by omega) (by omega) (by omega)
    obtain ⟨A, hA⟩ : ∃ A, A = (o + (N : Int)) / 2 ^ b := ⟨_, rfl⟩
    obtain ⟨B, hB⟩ : ∃ B, B = o / 2 ^ b := ⟨_, rfl⟩
    rw [← hA] at hd b1
    rw [← hB] at hd b2
    obtain ⟨W, hW⟩ : ∃ W, W = dWidth o l.length b := ⟨_, rfl⟩
    have s1 : IntKind.i64.wrap (o + (l.length : Int)) = o + (l.length : Int) := IntWalk.i64_in _ ⟨by omega, by omega⟩
    have s2 : IntKind.i64.wrap (o + (l.length : Int) - 1) = o + (N : Int) := by rw [IntWalk.i64_in _ ⟨by omega, by omega⟩]; omega
    have s2' : o + (l.length : Int) - 1 = o + (N : Int) := by omega
    have s3 : (o + (N : Int)) / 2 ^ b = A := hA.symm
    have s4 : o / 2 ^ b = B := hB.symm
    have s5 : IntKind.i64.wrap (A - B) = A - B := IntWalk.i64_in _ ⟨by omega, by omega⟩
    have s6 : IntKind.i64.wrap (A - B + 1) = (W : Int) := by rw [IntWalk.i64_in _ ⟨by omega, by omega⟩]; omega
    have s6' : A - B + 1 = (W : Int) := by omega
    have bb0 : (0 : Int) ≤ (b : Int) := by omega
    have mb : min b 64 = b := by omega
    rw [← hW]
    clear hv hz hN hd hw hA hB hW
    go_enter Try.func69, Try.ntmps69
    go_wp2
    go_quiet (fail)
    go_wp2
    go_ret
    exact ⟨rfl, ((Kept.refl _ _).alloc _).drewN _⟩
theorem made1 {w w3 : World} (hk : Kept (fun _ => False) w w3) (W : Nat) (O : Int) (hW : W ≤ maxLen) :
    SideBox (((w3.alloc (.cells (Array.replicate W (.int .u64 0)) 25)).alloc (.cells #[.int .i64 O, .slice (some ⟨w3.heap.size, 0, none⟩) W W] 28)).drew) (w3.heap.size + 1) O (.slice (some ⟨w3.heap.size, 0, none⟩) W W) ∧
    Mine w (((w3.alloc (.cells (Array.replicate W (.int .u64 0)) 25)).alloc (.cells #[.int .i64 O, .slice (some ⟨w3.heap.size, 0, none⟩) W W] 28)).drew) 25 (.slice (some ⟨w3.heap.size, 0, none⟩) W W) (List.replicate W (.int .u64 0)) ∧
    Kept (fun _ => False) w3 (((w3.alloc (.cells (Array.replicate W (.int .u64 0)) 25)).alloc (.cells #[.int .i64 O, .slice (some ⟨w3.heap.size, 0, none⟩) W W] 28)).drew) := by
  refine ⟨?_, ?_, (((Kept.refl _ w3).alloc _).alloc _).drew⟩
  · have := heap_alloc_new (w3.alloc (.cells (Array.replicate W (.int .u64 0)) 25)) (.cells #[.int .i64 O, .slice (some ⟨w3.heap.size, 0, none⟩) W W] 28)
    have e : (w3.alloc (.cells (Array.replicate W (.int .u64 0)) 25)).heap.size = w3.heap.size + 1 := by simp
    rw [e] at this
    exact this
  · exact (mine_made hk W (.int .u64 0) 25 hW).on (((Kept.refl _ _).alloc _).drew)
theorem made2 {w w3 : World} (hk : Kept (fun _ => False) w w3) (W : Nat) (O : Int) (hW : W ≤ maxLen) :
    SideBox (((w3.alloc (.cells #[.int .i64 O, .slice (some ⟨w3.heap.size + 1, 0, none⟩) W W] 28)).alloc (.cells (Array.replicate W (.int .u64 0)) 25)).drew) w3.heap.size O (.slice (some ⟨w3.heap.size + 1, 0, none⟩) W W) ∧
    Mine w (((w3.alloc (.cells #[.int .i64 O, .slice (some ⟨w3.heap.size + 1, 0, none⟩) W W] 28)).alloc (.cells (Array.replicate W (.int .u64 0)) 25)).drew) 25 (.slice (some ⟨w3.heap.size + 1, 0, none⟩) W W) (List.replicate W (.int .u64 0)) ∧
    Kept (fun _ => False) w3 (((w3.alloc (.cells #[.int .i64 O, .slice (some ⟨w3.heap.size + 1, 0, none⟩) W W] 28)).alloc (.cells (Array.replicate W (.int .u64 0)) 25)).drew) := by
  refine ⟨?_, ?_, (((Kept.refl _ w3).alloc _).alloc _).drew⟩
  · exact ((Kept.refl (fun _ => False) (w3.alloc (.cells #[.int .i64 O, .slice (some ⟨w3.heap.size + 1, 0, none⟩) W W] 28))).alloc _).drew.same (heap_alloc_new w3 _) (fun x => x)
  · have := (mine_made (hk.alloc (.cells #[.int .i64 O, .slice (some ⟨w3.heap.size + 1, 0, none⟩) W W] 28)) W (.int .u64 0) 25 hW).on ((Kept.refl _ _).drew)
    simpa using this
set_option maxHeartbeats 4000000 in
set_option maxRecDepth 100000 in
theorem histDownSide_any (o : Int) (l : List Nat) (b : Nat) (v : Value) (w : World) (hv : SlAt w v (uvals l)) (ho : -1000000000000 ≤ o ∧ o ≤ 1000000000000) (hl : l.length ≤ 1000000) (hb : b ≤ 60) (hs : l.sum < 18446744073709551616) :
    Calls Try.prog 43 #[.agg #[.int .i64 o, v], .int .i64 b] w (SideOut w fun o' l' => o' = downO o l b ∧ l' = downL o l b) := by
  obtain ⟨h0, h1⟩ := ho
  have hv0 := Lib.hid hv
  obtain ⟨ao, c, hval, _, _⟩ := hv.val
  rw [uvals_length] at hval
  subst hval
  have hW1 := dWidth_le o l.length b
  have HWD := Lib.hid fun w' (k : Kept (fun _ => False) w w') => histWidth_any o l b _ w' (hv.kept k (fun _ _ x => x)) ⟨h0, h1⟩ hl hb
  obtain ⟨W, hW⟩ : ∃ W, W = dWidth o l.length b := ⟨_, rfl⟩
  rw [← hW] at HWD hW1
  have HWE := Lib.hid hW
  have kb : Kept (fun _ => False) w ((w.alloc (.cells #[.int .i64 o, .slice ao l.length c] 28)).alloc (.cells #[.int .i64 0, .slice none 0 0] 28)) := ((Kept.refl _ w).alloc _).alloc _
  obtain ⟨w2, hw2⟩ : ∃ w2, w2 = (w.alloc (.cells #[.int .i64 o, .slice ao l.length c] 28)).alloc (.cells #[.int .i64 0, .slice none 0 0] 28) := ⟨_, rfl⟩
  have bx : SideBox w2 w.heap.size o (.slice ao l.length c) := by
    rw [hw2]
    exact ((Kept.refl (fun _ => False) (w.alloc (.cells #[.int .i64 o, .slice ao l.length c] 28))).alloc _).same (heap_alloc_new w _) (fun x => x)
  have rx : SideBox w2 (w.heap.size + 1) 0 (.slice none 0 0) := by
    rw [hw2]
    have := heap_alloc_new (w.alloc (.cells #[.int .i64 o, .slice ao l.length c] 28)) (.cells #[.int .i64 0, .slice none 0 0] 28)
    simpa [SideBox] using this
  rw [← hw2] at kb
  have HKB := Lib.hid kb
  have HB := Lib.hid bx
  have HR := Lib.hid rx
  have HWD2 := HWD.out _ kb
  rw [hw2] at HWD2
  have HWD2 := Lib.hid HWD2
  have HW2 := Lib.hid hw2
  clear hv hW HWD kb bx rx hw2
  by_cases hz : W = 0
  · have q : ((W : Int) == 0) = true := beqT (by omega)
    have hl0 : l.length = 0 := by
      have := HWE.out
      rw [hz] at this
      unfold dWidth at this
      split at this
      · assumption
      · omega
    have HF : Hid (downO o l b = 0 ∧ downL o l b = []) := Lib.hid ⟨if_pos hl0, List.eq_nil_of_length_eq_zero (by rw [downL_length, ← HWE.out, hz])⟩
    clear hz hl0
    go_enter Try.func43, Try.ntmps43
    go_wp2_with (go_at_call 69; refine HWD2.out.mono ?_; rintro e w3 ⟨rfl, hk⟩; rw [← HW2.out] at hk; have K3 := Lib.hid (HKB.out.trans hk); have rx3 := HR.out.same hk (fun x => x); have RX3 := Lib.hid rx3; obtain ⟨⟨r0, r1⟩, f0, f1⟩ := rx3.c; clear hk)
    refine side_end (o := 0) (v := .slice none 0 0) Try.results43 rfl rfl (RX3.out.set 0 (.slice none 0 0)) ?_
    exact ⟨0, [], _, ⟨HF.out.1.symm, HF.out.2.symm⟩, rfl, Mine.nil' _ (two_kept K3.out (by omega))⟩
  · have q : ((W : Int) == 0) = false := beqF (by omega)
    have hl0 : l.length ≠ 0 := by
      intro h
      have := HWE.out
      unfold dWidth at this
      rw [if_pos h] at this
      exact hz this
    have HL0 := Lib.hid hl0
    clear hl0
    go_enter Try.func43, Try.ntmps43
    go_wp2_with (go_at_call 69; refine HWD2.out.mono ?_; rintro e w3 ⟨rfl, hk⟩; rw [← HW2.out] at hk; have K3 := Lib.hid (HKB.out.trans hk); have rx3 := HR.out.same hk (fun x => x); have RX3 := Lib.hid rx3; have bx3 := HB.out.same hk (fun x => x); have BX3 := Lib.hid bx3; obtain ⟨⟨b0, b1⟩, _⟩ := bx3.c; clear hk rx3 bx3)
    go_upto_region 4 with fail
    obtain ⟨iU, hiU, hzU0, hzU1, hzU2⟩ := info_parts Try.infoU64
    have hmk := fun w' => run_make1 (P := Try.prog) Try.underlying26 hiU hzU0 hzU1 rfl (by omega) W (by omega) w'
    obtain ⟨O, hO⟩ : ∃ O, O = o / 2 ^ b := ⟨_, rfl⟩
    have s4 : o / 2 ^ b = O := hO.symm
    have mb : min b 64 = b := by omega
    have bb0 : (0 : Int) ≤ (b : Int) := by omega
    have HO := Lib.hid hO
    clear hO
    go_cut [6] (fun s6 wc => ∃ p g, s6 = .pointer (some ⟨p, 0, none⟩) ∧ SideBox wc p O (.slice (some ⟨g, 0, none⟩) W W) ∧ w3.heap.size ≤ p ∧ Mine w wc 25 (.slice (some ⟨g, 0, none⟩) W W) (uvals (dAcc o l b 0)) ∧ Kept (fun _ => False) w3 wc)
    case first =>
      have ba1 : ∀ o', (w3.alloc o').cell? ⟨w.heap.size, 0, none⟩ = some (.int .i64 o) := fun o' => ((Kept.refl (fun _ => False) w3).alloc o').cell b0 (fun x => x)
      have ba2 : ∀ o1 o2, ((w3.alloc o1).alloc o2).cell? ⟨w.heap.size, 0, none⟩ = some (.int .i64 o) := fun o1 o2 => (((Kept.refl (fun _ => False) w3).alloc o1).alloc o2).cell b0 (fun x => x)
      have f1 := Lib.hid (made1 K3.out W O (by unfold maxLen; omega))
      have f2 := Lib.hid (made2 K3.out W O (by unfold maxLen; omega))
      have hz0 := Lib.hid (show uvals (dAcc o l b 0) = List.replicate W (.int .u64 0) by rw [dAcc_zero, uvals_replicate, HWE.out])
      go_region
      all_goals
        go_wp2
        go_meet
        case rel =>
          first
            | exact ⟨_, _, rfl, f1.out.1, by omega, by rw [hz0.out]; exact f1.out.2.1, f1.out.2.2⟩
            | exact ⟨_, _, rfl, f2.out.1, by omega, by rw [hz0.out]; exact f2.out.2.1, f2.out.2.2⟩
            | (trace_state; sorry)
    case rest =>
      obtain ⟨p, g, rfl, hbx, hp3, hm, hk⟩ := hcut
      have HKC := Lib.hid hk
      have HP := Lib.hid hbx
      have HM := Lib.hid hm
      have hgp : g ≠ p := fun e => own_box hm.own hbx (by decide) (by rw [e]; rfl)
      have hgb : g ≠ w.heap.size := fun e => own_box hm.own (BX3.out.same hk (fun x => x)) (by decide) (by rw [e]; rfl)
      have hgr : g ≠ w.heap.size + 1 := fun e => own_box hm.own (RX3.out.same hk (fun x => x)) (by decide) (by rw [e]; rfl)
      have hBC := Lib.hid (BX3.out.same hk (fun x => x))
      have hRC := Lib.hid (RX3.out.same hk (fun x => x))
      have hgW : w.heap.size ≤ g := (ownsRow_lt hm.own rfl).2
      obtain ⟨⟨b0', b1'⟩, _⟩ := hBC.out.c
      clear b0 b1 hbx hm hk
      go_wp2
      go_loopg [7, 8, 25, 26, 27, 28, 29, 30, 31, 32, 33, 34, 35, 36, 37, 38, 39, 40, 41, 42, 43, 44, 45, 46] l.length (fun g' s7 s8 s25 s26 s27 s28 s29 s30 s31 s32 s33 s34 s35 s36 s37 s38 s39 s40 s41 s42 s43 s44 s45 s46 wr => ∃ m : Nat, m ≤ l.length ∧ g' = l.length - m ∧ s25 = .int .i64 m ∧ Mine w wr 25 (.slice (some ⟨g, 0, none⟩) W W) (uvals (dAcc o l b m)) ∧ Kept (fun k => k = g) wc wr)
      case atStart => exact ⟨0, Nat.zero_le _, rfl, rfl, HM.out, Kept.refl _ _⟩
      case round =>
        obtain ⟨m, hml, rfl, rfl, hm, hk⟩ := hrel
        have HMM := Lib.hid hm
        have HKK := Lib.hid hk
        have hb := hBC.out.same hk (fun e => hgb e.symm)
        have hpx := HP.out.same hk (fun e => hgp e.symm)
        obtain ⟨⟨b0, b1⟩, _⟩ := hb.c
        obtain ⟨⟨p0, p1⟩, _⟩ := hpx.c
        clear b0' b1' hm hk hb hpx
        by_cases hd : m < l.length
        · have hdi : (m : Int) < (l.length : Int) := by omega
          have m0 : (0 : Int) ≤ (m : Int) := by omega
          have HD := Lib.hid hd
          obtain ⟨g2, off2, rfl, c0⟩ := (hv0.out.kept HMM.out.kept (fun _ _ x => x)).elem (uvals_get hd)
          obtain ⟨y, hy⟩ : ∃ y, y = l.getD m 0 := ⟨_, rfl⟩
          rw [← hy] at c0
          have hix := dIdx_lt o l.length b m hd
          have hie := dIdx_eq o b m
          have hds := dSum_le_sum o l b (m + 1) (dIdx o b m) (by omega)
          have hacc := dAcc_succ o l b m
          have hgd := dAcc_get o l b m (dIdx o b m) hix
          simp only [dSum, if_true] at hds
          rw [← hy] at hds hacc
          obtain ⟨D, hD⟩ : ∃ D, D = dIdx o b m := ⟨_, rfl⟩
          rw [← hD] at hix hie hds hacc hgd
          obtain ⟨X, hX⟩ : ∃ X, X = dSum o l b m D := ⟨_, rfl⟩
          rw [← hX] at hds hacc hgd
          have hmW : wr.ownsRow w.heap.size 25 1 (.slice (some ⟨g, 0, none⟩) W W) W (uvals (dAcc o l b m)) := by have := HMM.out.own; rwa [uvals_length, dAcc_length, ← HWE.out] at this
          have hcd := hmW.cellAt D (by have := HWE.out; omega)
          rw [uvals_get (by rw [dAcc_length]; exact hix), hgd] at hcd
          have hfd : wr.frozen? ⟨g, D, none⟩ = false := by
            obtain ⟨cur, hc⟩ := ownsRow_block HMM.out.own (k := g) rfl
            simp [World.frozen?, hc]
          obtain ⟨A, hA⟩ : ∃ A, A = (o + (m : Int)) / 2 ^ b := ⟨_, rfl⟩
          rw [← hA, ← HO.out] at hie
          obtain ⟨Y, hY⟩ : ∃ Y, Y = X + y := ⟨_, rfl⟩
          have b1 := ediv_bound (o + (m : Int)) b 2000000000000 (by omega) (by omega) (by omega)
          have b2 := ediv_bound o b 2000000000000 (by omega) (by omega) (by omega)
          rw [← hA] at b1
          rw [← HO.out] at b2
          have t1 : IntKind.i64.wrap (o + (m : Int)) = o + (m : Int) := IntWalk.i64_in _ ⟨by omega, by omega⟩
          have t2 : (o + (m : Int)) / 2 ^ b = A := hA.symm
          have t3 : IntKind.i64.wrap (A - O) = (D : Int) := by rw [IntWalk.i64_in _ ⟨by omega, by omega⟩]; omega
          have t3' : IntKind.i64.wrap (D : Int) = (D : Int) := IntWalk.i64_in _ ⟨by omega, by omega⟩
          have t4 : IntKind.u64.wrap ((X : Int) + (y : Int)) = (Y : Int) := by rw [IntKind.wrap_u64]; omega
          have t5 : IntKind.u64.wrap (Y : Int) = (Y : Int) := by rw [IntKind.wrap_u64]; omega
          have D0 : (0 : Int) ≤ (D : Int) := by omega
          have DW : (D : Int) < (W : Int) := by have := HWE.out; omega
          have HACC := Lib.hid (show uvals (dAcc o l b (m + 1)) = (uvals (dAcc o l b m)).set D (.int .u64 (Y : Int)) by rw [uvals_set, hacc, hY])
          have HMW := Lib.hid hmW
          clear hix hie hds hacc hgd hD hX hA hY b1 b2 hy hd s4 hmW
          go_wp2
          go_still_tail 16, (by kernel_rfl)
          obtain ⟨w4, hw4⟩ : ∃ w4, w4 = wr.drew := ⟨_, rfl⟩
          have K4 : Kept (fun _ => False) wr w4 := by rw [hw4]; exact (Kept.refl _ wr).drew
          have hc4 := K4.cell hcd (fun x => x)
          have hf4 : w4.frozen? ⟨g, D, none⟩ = false := by rw [hw4]; exact hfd
          have HMW4 := Lib.hid (K4.owns HMW.out (fun _ _ x => x))
          have HK4 := Lib.hid K4
          change wpList _ _ _ _ _ wr.drew
          rw [← hw4]
          clear hw4 K4 hcd hfd
          go_wp2
          have HN : Mine w (w4.setCell ⟨g, D, none⟩ (.int .u64 (Y : Int))) 25 (.slice (some ⟨g, 0, none⟩) W W) (uvals (dAcc o l b (m + 1))) ∧ Kept (fun k => k = g) wc (w4.setCell ⟨g, D, none⟩ (.int .u64 (Y : Int))) := by
            refine ⟨?_, ?_⟩
            · rw [HACC.out]
              have := owns_set HMW4.out D (.int .u64 (Y : Int))
              refine Mine.ofFresh this ((HMM.out.kept.trans HK4.out).newer ((Kept.refl (fun k => k = g) w4).setCell (p := ⟨g, D, none⟩) (fun _ => rfl) _) (fun i e => by rw [e]; exact hgW))
            · exact (HKK.out.trans (HK4.out.mono (fun _ _ x => x.elim))).setCell (fun _ => rfl) _
          have HN := Lib.hid HN
          go_roundg (l.length - (m + 1))
          case measure => have := HD.out; omega
          case rel => exact ⟨m + 1, HD.out, rfl, by go_num, HN.out.1, HN.out.2⟩
        · obtain rfl : m = l.length := by omega
          have hrx := hRC.out.same HKK.out (fun e => hgr e.symm)
          have RX := Lib.hid hrx
          obtain ⟨⟨r0, r1⟩, f0, f1⟩ := hrx.c
          have HF := Lib.hid (show O = downO o l b by unfold downO; rw [if_neg HL0.out]; exact HO.out)
          clear hrx hd
          go_wp2
          refine side_end (o := O) (v := .slice (some ⟨g, 0, none⟩) W W) Try.results43 rfl rfl (RX.out.set _ _) ?_
          exact ⟨O, downL o l b, _, ⟨HF.out, rfl⟩, rfl, HMM.out.setBox RX.out (by decide) (by omega) _ _⟩
end Go.Proofs.Ytiiibhdohlpodaa
namespace Go.Proofs.Ytiiibhdohlpodaa
open Go.RowKit
/-- A histogram, more coarsely; the error of that. -/
def downE (h : HistV) (by_ : Int) : Nat := if h.err ≠ 0 then h.err else if by_ < 0 ∨ h.sc + 10 < by_ then 1 else 0
def downH (h : HistV) (b : Nat) : HistV := ⟨h.sc - (b : Int), h.ze, downO h.po h.pl b, downL h.po h.pl b, downO h.no h.nl b, downL h.no h.nl b⟩
/-- What a call answers that makes a histogram, in new memory. -/
def HistOut (w : World) (R : HistV) (E : Nat) (e : Ending) (w' : World) : Prop :=
  ∃ pv nv, e = .returned (.tuple #[histV R pv nv, .int .i64 (E : Int)]) ∧ Mine w w' 25 pv (uvals R.pl) ∧ Mine w w' 25 nv (uvals R.nl) ∧ ∀ k, pv.ownBlock = some k → nv.ownBlock ≠ some k
def downR (h : HistV) (by_ : Int) : HistV := if downE h by_ = 0 then downH h by_.toNat else zeroH
theorem zeroOut {w w' : World} {E : Nat} (hk : Kept (fun _ => False) w w') : HistOut w zeroH E (.returned (.tuple #[histV zeroH (.slice none 0 0) (.slice none 0 0), .int .i64 (E : Int)])) w' :=
  ⟨_, _, rfl, Mine.nil' _ hk, Mine.nil' _ hk, fun k e => by cases e⟩
theorem side_range {o : Int} {l : List Nat} (h : sideE o l = 0) : (-1000000000000 ≤ o ∧ o ≤ 1000000000000) ∧ l.length ≤ 160 := by
  obtain ⟨h1, h2, h3⟩ := sideE_zero h
  by_cases hz : l.length = 0
  · have := h2 hz; omega
  · have := h3 hz; omega
theorem total_parts {h : HistV} (ht : h.total < 18446744073709551616) : h.pl.sum < 18446744073709551616 ∧ h.nl.sum < 18446744073709551616 := by
  unfold HistV.total sumN at ht; omega
end Go.Proofs.Ytiiibhdohlpodaa
namespace Go.Proofs.Ytiiibhdohlpodaa
open Go.RowKit
attribute [local go_sem ↓] Go.wp_at_zero Go.wp_at_succ
set_option maxHeartbeats 4000000 in
set_option maxRecDepth 100000 in
theorem histDown_ok (sc : Int) (ze : Nat) (po : Int) (pl : List Nat) (no : Int) (nl : List Nat) (b : Nat) (ao bo : Option Addr) (c d : Nat) (w w0 : World) (k0 : Kept (fun _ => False) w w0)
    (hw0 : w0 = (w.alloc (.cells #[.int .i64 sc, .int .u64 (ze : Int), .int .i64 po, .slice ao pl.length c, .int .i64 no, .slice bo nl.length d] 30)).alloc (.cells #[.int .i64 0, .int .u64 0, .int .i64 0, .slice none 0 0, .int .i64 0, .slice none 0 0] 30))
    (bx : HistBox w0 w.heap.size ⟨sc, ze, po, pl, no, nl⟩ (.slice ao pl.length c) (.slice bo nl.length d)) (rx : HistBox w0 (w.heap.size + 1) zeroH (.slice none 0 0) (.slice none 0 0))
    (hE : Calls Try.prog 30 #[.agg #[.int .i64 sc, .int .u64 (ze : Int), .int .i64 po, .slice ao pl.length c, .int .i64 no, .slice bo nl.length d]] w0 fun e w' => e = .returned (.int .i64 0) ∧ Kept (fun _ => False) w0 w')
    (HD1 : Hid (∀ w', Kept (fun _ => False) w0 w' → Calls Try.prog 43 #[.agg #[.int .i64 po, .slice ao pl.length c], .int .i64 b] w' (SideOut w' fun o' l' => o' = downO po pl b ∧ l' = downL po pl b)))
    (HD2 : Hid (∀ w', Kept (fun _ => False) w0 w' → Calls Try.prog 43 #[.agg #[.int .i64 no, .slice bo nl.length d], .int .i64 b] w' (SideOut w' fun o' l' => o' = downO no nl b ∧ l' = downL no nl b)))
    (hb : (b : Int) ≤ sc + 10) (hsc : -10 ≤ sc ∧ sc ≤ 20) (R : HistV) (hR : R = ⟨sc - (b : Int), ze, downO po pl b, downL po pl b, downO no nl b, downL no nl b⟩) :
    Calls Try.prog 16 #[.agg #[.int .i64 sc, .int .u64 (ze : Int), .int .i64 po, .slice ao pl.length c, .int .i64 no, .slice bo nl.length d], .int .i64 b] w (HistOut w R 0) := by
  have HK0 := Lib.hid k0
  have HBX := Lib.hid bx
  have HRX := Lib.hid rx
  have HW0 := Lib.hid hw0
  rw [hw0] at hE
  have HC := Lib.hid hE
  have q : ((0 : Int) != 0) = false := rfl
  have b1 : ¬ (b : Int) < 0 := by omega
  have sc1 : IntKind.i64.wrap (sc - -10) = sc + 10 := by rw [IntWalk.i64_in _ ⟨by omega, by omega⟩]; omega
  have sc2 : sc - -10 = sc + 10 := by omega
  have sc3 : IntKind.i64.wrap (sc + 10) = sc + 10 := IntWalk.i64_in _ ⟨by omega, by omega⟩
  have hb2 : ¬ sc + 10 < (b : Int) := by omega
  have s1 : IntKind.i64.wrap (sc - (b : Int)) = sc - (b : Int) := IntWalk.i64_in _ ⟨by omega, by omega⟩
  have HR := Lib.hid hR
  clear k0 bx rx hw0 hE hR
  go_enter Try.func16, Try.ntmps16
  go_wp2_with (go_at_call 30; refine HC.out.mono ?_; rintro e w1 ⟨rfl, k1⟩; rw [← HW0.out] at k1; have K1 := Lib.hid k1; obtain ⟨c0, c1, c2, c3, c4, c5⟩ := (HBX.out.same k1 (fun x => x)).c; clear k1)
  have kd : Kept (fun _ => False) w0 w1.drew := K1.out.drew
  have HKD := Lib.hid kd
  have HC1 := Lib.hid (HBX.out.same kd (fun x => x)).c

  go_region_held3 (fun w' => w'.cell? ⟨w.heap.size, 0, none⟩ = some (.int .i64 sc) ∧ w'.cell? ⟨w.heap.size, 1, none⟩ = some (.int .u64 (ze : Int)) ∧ w'.cell? ⟨w.heap.size, 2, none⟩ = some (.int .i64 po) ∧ w'.cell? ⟨w.heap.size, 3, none⟩ = some (.slice ao pl.length c) ∧ w'.cell? ⟨w.heap.size, 4, none⟩ = some (.int .i64 no) ∧ w'.cell? ⟨w.heap.size, 5, none⟩ = some (.slice bo nl.length d)) (first | (with_reducible exact HC1.out) | (with_reducible exact HB3.out) | (exact (HistBox.same HB4.out (set6_kept w4 (w.heap.size + 1) (.int .i64 (sc - (b : Int))) (.int .u64 (ze : Int)) (.int .i64 o3) (.slice a3 n3 q3) (.int .i64 o4) (.slice a4 n4 q4)) (by omega)).c))
    (first
      | (have _tok := HK3.out; go_at_call 43; refine (HD2.out _ HK3.out).mono ?_; rintro e w4 ⟨o4, l4, v4, hh4, rfl, hm4⟩; have HH4 := Lib.hid hh4; clear hh4; obtain ⟨a4, q4, rfl⟩ := hm4.slice; obtain ⟨n4, hn4⟩ : ∃ n4, n4 = (uvals l4).length := ⟨_, rfl⟩; rw [← hn4] at hm4 ⊢; have HN4 := Lib.hid hn4; clear hn4; have HM4 := Lib.hid hm4; have kc4 := HK3.out.trans hm4.kept; have HB4 := Lib.hid (HBX.out.same kc4 (fun x => x)); have HB3 := Lib.hid HB4.out.c; have rx4 := HRX.out.same kc4 (fun x => x); have RX4 := Lib.hid rx4; obtain ⟨r0, r1, r2, r3, r4, r5⟩ := rx4.c; obtain ⟨f0, f1, f2, f3, f4, f5⟩ := rx4.f; clear hm4 rx4 kc4)
      | (go_at_call 43; refine (HD1.out _ HKD.out).mono ?_; rintro e w3 ⟨o3, l3, v3, hh3, rfl, hm3⟩; have HH3 := Lib.hid hh3; clear hh3; obtain ⟨a3, q3, rfl⟩ := hm3.slice; obtain ⟨n3, hn3⟩ : ∃ n3, n3 = (uvals l3).length := ⟨_, rfl⟩; rw [← hn3] at hm3 ⊢; have HN3 := Lib.hid hn3; clear hn3; have HM3 := Lib.hid hm3; have HK3 := Lib.hid (HKD.out.trans hm3.kept); have HB3 := Lib.hid (HBX.out.same HK3.out (fun x => x)).c; clear hm3)
      | fail)
  go_wp2
  obtain ⟨rfl, rfl⟩ := HH3.out
  obtain ⟨rfl, rfl⟩ := HH4.out
  obtain rfl := HN3.out
  obtain rfl := HN4.out
  have M3 := Lib.hid (((HM3.out.down (HK0.out.trans HKD.out)).on HM4.out.kept).set6 RX4.out (by omega) (.int .i64 (sc - (b : Int))) (.int .u64 (ze : Int)) (.int .i64 (downO po pl b)) (.slice a3 (uvals (downL po pl b)).length q3) (.int .i64 (downO no nl b)) (.slice a4 (uvals (downL no nl b)).length q4))
  have M4 := Lib.hid ((HM4.out.down (HK0.out.trans HK3.out)).set6 RX4.out (by omega) (.int .i64 (sc - (b : Int))) (.int .u64 (ze : Int)) (.int .i64 (downO po pl b)) (.slice a3 (uvals (downL po pl b)).length q3) (.int .i64 (downO no nl b)) (.slice a4 (uvals (downL no nl b)).length q4))
  have hdis : ∀ k, (Value.slice a3 (uvals (downL po pl b)).length q3).ownBlock = some k → (Value.slice a4 (uvals (downL no nl b)).length q4).ownBlock ≠ some k := fun k e1 e2 => by
    have h1 := (ownsRow_lt HM3.out.own e1).1
    have h2 := (ownsRow_lt HM4.out.own e2).2
    omega
  have HDIS := Lib.hid hdis
  clear hdis
  refine hist_end (h := R) (pv := .slice a3 (uvals (downL po pl b)).length q3) (nv := .slice a4 (uvals (downL no nl b)).length q4) Try.results16 rfl rfl rfl (by rw [HR.out]; exact RX4.out.set ⟨sc - (b : Int), ze, downO po pl b, downL po pl b, downO no nl b, downL no nl b⟩ _ _) ?_
  refine ⟨_, _, rfl, ?_, ?_, HDIS.out⟩
  · rw [HR.out]; exact M3.out
  · rw [HR.out]; exact M4.out
end Go.Proofs.Ytiiibhdohlpodaa
namespace Go.Proofs.Ytiiibhdohlpodaa
open Go.RowKit
attribute [local go_sem ↓] Go.wp_at_zero Go.wp_at_succ
set_option maxHeartbeats 4000000 in
set_option maxRecDepth 100000 in
theorem histDown_any (h : HistV) (by_ : Int) (pv nv : Value) (w : World) (ha : HistAt w h pv nv) (hok : h.ok) (hp : h.pl.length ≤ 1000000) (hn : h.nl.length ≤ 1000000) (hby : I64 by_) :
    Calls Try.prog 16 #[histV h pv nv, .int .i64 by_] w (HistOut w (downR h by_) (downE h by_)) := by
  obtain ⟨⟨ao, c, rfl⟩, bo, d, rfl⟩ := ha.sl
  obtain ⟨w0, hw0⟩ : ∃ w0, w0 = (w.alloc (.cells #[.int .i64 h.sc, .int .u64 (h.ze : Int), .int .i64 h.po, .slice ao h.pl.length c, .int .i64 h.no, .slice bo h.nl.length d] 30)).alloc (.cells #[.int .i64 0, .int .u64 0, .int .i64 0, .slice none 0 0, .int .i64 0, .slice none 0 0] 30) := ⟨_, rfl⟩
  have k0 : Kept (fun _ => False) w w0 := by rw [hw0]; exact ((Kept.refl _ w).alloc _).alloc _
  have bx : HistBox w0 w.heap.size h (.slice ao h.pl.length c) (.slice bo h.nl.length d) := by
    rw [hw0]; exact ((Kept.refl (fun _ => False) _).alloc _).same (heap_alloc_new w _) (fun x => x)
  have rx : HistBox w0 (w.heap.size + 1) zeroH (.slice none 0 0) (.slice none 0 0) := by
    rw [hw0]
    have := heap_alloc_new (w.alloc (.cells #[.int .i64 h.sc, .int .u64 (h.ze : Int), .int .i64 h.po, .slice ao h.pl.length c, .int .i64 h.no, .slice bo h.nl.length d] 30)) (.cells #[.int .i64 0, .int .u64 0, .int .i64 0, .slice none 0 0, .int .i64 0, .slice none 0 0] 30)
    have e : (w.alloc (.cells #[.int .i64 h.sc, .int .u64 (h.ze : Int), .int .i64 h.po, .slice ao h.pl.length c, .int .i64 h.no, .slice bo h.nl.length d] 30)).heap.size = w.heap.size + 1 := by simp
    rw [e] at this
    exact this
  have HC := Lib.hid (histCheck_any h _ _ w0 (ha.on k0) hok hp hn)
  have HA := Lib.hid fun w' (k : Kept (fun _ => False) w0 w') => ha.on (k0.trans k)
  have HK0 := Lib.hid k0
  have HBX := Lib.hid bx
  have HRX := Lib.hid rx
  have HW0 := Lib.hid hw0
  have hdE : downE h by_ = if h.err ≠ 0 then h.err else if by_ < 0 ∨ h.sc + 10 < by_ then 1 else 0 := rfl
  have hLT := err_light (h := h)
  obtain ⟨E, hE⟩ : ∃ E, E = h.err := ⟨_, rfl⟩
  rw [← hE] at HC hdE hLT
  rw [hw0] at HC
  have HC := Lib.hid HC.out
  clear ha k0 bx rx hw0
  by_cases hE0 : E = 0
  · have q : ((E : Int) != 0) = false := bneF (by omega)
    obtain ⟨⟨l1, l2⟩, l3, l4, l5⟩ := hLT hE0
    rw [if_neg (by omega)] at hdE
    have hp2 := side_range l3
    have hn2 := side_range l4
    obtain ⟨t1, t2⟩ := total_parts l5
    have sc1 : IntKind.i64.wrap (h.sc - -10) = h.sc + 10 := by rw [IntWalk.i64_in _ ⟨by omega, by omega⟩]; omega
    have sc2 : h.sc - -10 = h.sc + 10 := by omega
    have sc3 : IntKind.i64.wrap (h.sc + 10) = h.sc + 10 := IntWalk.i64_in _ ⟨by omega, by omega⟩
    have hcase : by_ < 0 ∨ (¬ by_ < 0 ∧ h.sc + 10 < by_) ∨ (¬ by_ < 0 ∧ ¬ h.sc + 10 < by_) := by omega
    rcases hcase with b1 | ⟨b1, b2⟩ | ⟨b1, b2⟩
    · have hd : downE h by_ = 1 := by rw [hdE, if_pos (.inl b1)]
      have hr : downR h by_ = zeroH := by unfold downR; rw [hd, if_neg (by omega)]
      rw [hd, hr]
      clear hE hd hr hdE hLT hE0
      obtain ⟨sc, ze, po, pl, no, nl⟩ := h
      unfold histV at HC ⊢
      go_enter Try.func16, Try.ntmps16
      go_wp2_with (go_at_call 30; refine HC.out.mono ?_; rintro e w1 ⟨rfl, k1⟩; rw [← HW0.out] at k1; have K1 := Lib.hid (HK0.out.trans k1); have rx1 := HRX.out.same k1 (fun x => x); have RX1 := Lib.hid rx1; obtain ⟨r0, r1, r2, r3, r4, r5⟩ := rx1.c; obtain ⟨f0, f1, f2, f3, f4, f5⟩ := rx1.f; clear k1 rx1)
      refine hist_end (h := zeroH) Try.results16 rfl rfl rfl (RX1.out.set zeroH (.slice none 0 0) (.slice none 0 0)) ?_
      exact zeroOut (E := 1) (K1.out.newer (set6_kept _ _ _ _ _ _ _ _) (fun i e => by omega))
    · have hd : downE h by_ = 1 := by rw [hdE, if_pos (.inr b2)]
      have hr : downR h by_ = zeroH := by unfold downR; rw [hd, if_neg (by omega)]
      rw [hd, hr]
      clear hE hd hr hdE hLT hE0
      obtain ⟨sc, ze, po, pl, no, nl⟩ := h
      unfold histV at HC ⊢
      simp only at b2 sc1 sc2 sc3
      go_enter Try.func16, Try.ntmps16
      go_wp2_with (go_at_call 30; refine HC.out.mono ?_; rintro e w1 ⟨rfl, k1⟩; rw [← HW0.out] at k1; have K1 := Lib.hid (HK0.out.trans k1); obtain ⟨c0, _⟩ := (HBX.out.same k1 (fun x => x)).c; have rx1 := HRX.out.same k1 (fun x => x); have RX1 := Lib.hid rx1; obtain ⟨r0, r1, r2, r3, r4, r5⟩ := rx1.c; obtain ⟨f0, f1, f2, f3, f4, f5⟩ := rx1.f; clear k1 rx1)
      refine hist_end (h := zeroH) Try.results16 rfl rfl rfl (RX1.out.set zeroH (.slice none 0 0) (.slice none 0 0)) ?_
      exact zeroOut (E := 1) (K1.out.newer (set6_kept _ _ _ _ _ _ _ _) (fun i e => by omega))
    · have hd : downE h by_ = 0 := by rw [hdE, if_neg (by omega)]
      obtain ⟨b, rfl⟩ : ∃ b : Nat, by_ = b := ⟨by_.toNat, by omega⟩
      have hr : downR h b = downH h b := by unfold downR; rw [hd, if_pos rfl, Int.toNat_natCast]
      rw [hd, hr]
      have HD1 := Lib.hid fun w' (k : Kept (fun _ => False) w0 w') => histDownSide_any h.po h.pl b _ w' (HA.out _ k).p hp2.1 hp (by omega) t1
      have HD2 := Lib.hid fun w' (k : Kept (fun _ => False) w0 w') => histDownSide_any h.no h.nl b _ w' (HA.out _ k).n hn2.1 hn (by omega) t2
      have hC := HC.out
      rw [← HW0.out, hE0] at hC
      obtain ⟨sc, ze, po, pl, no, nl⟩ := h
      exact histDown_ok sc ze po pl no nl b ao bo c d w w0 HK0.out HW0.out HBX.out HRX.out hC HD1 HD2 (by simp only at b2; omega) ⟨by simp only at l1; omega, by simp only at l2; omega⟩ _ rfl
  · have q : ((E : Int) != 0) = true := bneT (by omega)
    have hd : downE h by_ = E := by rw [hdE, if_pos hE0]
    have hr : downR h by_ = zeroH := by unfold downR; rw [hd, if_neg hE0]
    rw [hd, hr]
    clear hE hd hr hdE hLT hE0
    obtain ⟨sc, ze, po, pl, no, nl⟩ := h
    unfold histV at HC ⊢
    go_enter Try.func16, Try.ntmps16
    go_wp2_with (go_at_call 30; refine HC.out.mono ?_; rintro e w1 ⟨rfl, k1⟩; rw [← HW0.out] at k1; have K1 := Lib.hid (HK0.out.trans k1); have rx1 := HRX.out.same k1 (fun x => x); have RX1 := Lib.hid rx1; obtain ⟨r0, r1, r2, r3, r4, r5⟩ := rx1.c; obtain ⟨f0, f1, f2, f3, f4, f5⟩ := rx1.f; clear k1 rx1)
    refine hist_end (h := zeroH) Try.results16 rfl rfl rfl (RX1.out.set zeroH (.slice none 0 0) (.slice none 0 0)) ?_
    exact zeroOut (K1.out.newer (set6_kept _ _ _ _ _ _ _ _) (fun i e => by omega))
end Go.Proofs.Ytiiibhdohlpodaa
namespace Go.Proofs.Ytiiibhdohlpodaa
open Go.RowKit
attribute [local go_sem ↓] Go.wp_at_zero Go.wp_at_succ
/-- Whether both sides have at most so many buckets. -/
def fits (h : HistV) (most : Int) (b : Nat) : Prop := ((dWidth h.po h.pl.length b : Nat) : Int) ≤ most ∧ ((dWidth h.no h.nl.length b : Nat) : Int) ≤ most
/-- A histogram as coarse as it must be. -/
def FitOf (h : HistV) (most : Int) (R : HistV) (E : Nat) : Prop :=
  (h.err ≠ 0 ∧ E = h.err ∧ R = zeroH) ∨
  (h.err = 0 ∧ ∃ b : Nat, (b : Int) ≤ h.sc + 10 ∧ fits h most b ∧ (∀ a, a < b → ¬ fits h most a) ∧ R = downH h b ∧ E = 0) ∨
  (h.err = 0 ∧ (∀ a : Nat, (a : Int) ≤ h.sc + 10 → ¬ fits h most a) ∧ R = zeroH ∧ E = 4)
theorem FitOf.uniq {h : HistV} {most : Int} {R1 R2 : HistV} {E1 E2 : Nat} (h1 : FitOf h most R1 E1) (h2 : FitOf h most R2 E2) : R1 = R2 ∧ E1 = E2 := by
  rcases h1 with ⟨a, rfl, rfl⟩ | ⟨a, b, hb, f, l, rfl, rfl⟩ | ⟨a, n, rfl, rfl⟩
  · rcases h2 with ⟨c, rfl, rfl⟩ | ⟨c, _⟩ | ⟨c, _⟩
    · exact ⟨rfl, rfl⟩
    · exact absurd c a
    · exact absurd c a
  · rcases h2 with ⟨c, _⟩ | ⟨c, b', hb', f', l', rfl, rfl⟩ | ⟨c, n', _⟩
    · exact absurd a c
    · rcases Nat.lt_trichotomy b b' with x | x | x
      · exact absurd f (l' b x)
      · subst x; exact ⟨rfl, rfl⟩
      · exact absurd f' (l b' x)
    · exact absurd f (n' b hb)
  · rcases h2 with ⟨c, _⟩ | ⟨c, b', hb', f', _⟩ | ⟨c, n', rfl, rfl⟩
    · exact absurd a c
    · exact absurd f' (n b' hb')
    · exact ⟨rfl, rfl⟩
set_option maxHeartbeats 4000000 in
set_option maxRecDepth 100000 in
theorem histFit_ok (h : HistV) (most : Int) (ao bo : Option Addr) (c d : Nat) (w w0 : World) (k0 : Kept (fun _ => False) w w0)
    (hw0 : w0 = (w.alloc (.cells #[.int .i64 h.sc, .int .u64 (h.ze : Int), .int .i64 h.po, .slice ao h.pl.length c, .int .i64 h.no, .slice bo h.nl.length d] 30)).alloc (.cells #[.int .i64 0, .int .u64 0, .int .i64 0, .slice none 0 0, .int .i64 0, .slice none 0 0] 30))
    (bx : HistBox w0 w.heap.size h (.slice ao h.pl.length c) (.slice bo h.nl.length d)) (rx : HistBox w0 (w.heap.size + 1) zeroH (.slice none 0 0) (.slice none 0 0))
    (hE : Calls Try.prog 30 #[.agg #[.int .i64 h.sc, .int .u64 (h.ze : Int), .int .i64 h.po, .slice ao h.pl.length c, .int .i64 h.no, .slice bo h.nl.length d]] w0 fun e w' => e = .returned (.int .i64 0) ∧ Kept (fun _ => False) w0 w')
    (HW1 : Hid (∀ w' (b : Nat), Kept (fun _ => False) w0 w' → b ≤ 60 → Calls Try.prog 69 #[.agg #[.int .i64 h.po, .slice ao h.pl.length c], .int .i64 b] w' fun e w' => e = .returned (.int .i64 ((dWidth h.po h.pl.length b : Nat) : Int)) ∧ Kept (fun _ => False) w0 w'))
    (HW2 : Hid (∀ w' (b : Nat), Kept (fun _ => False) w0 w' → b ≤ 60 → Calls Try.prog 69 #[.agg #[.int .i64 h.no, .slice bo h.nl.length d], .int .i64 b] w' fun e w' => e = .returned (.int .i64 ((dWidth h.no h.nl.length b : Nat) : Int)) ∧ Kept (fun _ => False) w0 w'))
    (HDN : Hid (∀ w' (b : Nat), Kept (fun _ => False) w0 w' → (b : Int) ≤ h.sc + 10 → Calls Try.prog 16 #[.agg #[.int .i64 h.sc, .int .u64 (h.ze : Int), .int .i64 h.po, .slice ao h.pl.length c, .int .i64 h.no, .slice bo h.nl.length d], .int .i64 b] w' (HistOut w' (downH h b) 0)))
    (hsc : -10 ≤ h.sc ∧ h.sc ≤ 20) (he : h.err = 0) :
    Calls Try.prog 92 #[.agg #[.int .i64 h.sc, .int .u64 (h.ze : Int), .int .i64 h.po, .slice ao h.pl.length c, .int .i64 h.no, .slice bo h.nl.length d], .int .i64 most] w (fun e w' => ∃ R E, FitOf h most R E ∧ HistOut w R E e w') := by
  have HK0 := Lib.hid k0
  have HBX := Lib.hid bx
  have HRX := Lib.hid rx
  have HW0 := Lib.hid hw0
  rw [hw0] at hE
  have HC := Lib.hid hE
  have HE := Lib.hid he
  have q : ((0 : Int) != 0) = false := rfl
  obtain ⟨N, hN⟩ : ∃ N : Nat, (N : Int) = h.sc + 11 := ⟨(h.sc + 11).toNat, by omega⟩
  have sc1 : IntKind.i64.wrap (h.sc - -10) = h.sc + 10 := by rw [IntWalk.i64_in _ ⟨by omega, by omega⟩]; omega
  have sc2 : h.sc - -10 = h.sc + 10 := by omega
  have sc3 : IntKind.i64.wrap (h.sc + 10 + 1) = (N : Int) := by rw [IntWalk.i64_in _ ⟨by omega, by omega⟩]; omega
  have sc4 : h.sc + 10 + 1 = (N : Int) := by omega
  have sc5 : IntKind.i64.wrap (h.sc + 10) = h.sc + 10 := IntWalk.i64_in _ ⟨by omega, by omega⟩
  have sc6 : IntKind.i64.wrap (N : Int) = (N : Int) := IntWalk.i64_in _ ⟨by omega, by omega⟩
  have HN := Lib.hid hN
  have HSC := Lib.hid hsc
  have hN60 : N ≤ 60 := by omega
  clear k0 bx rx hw0 hE he hN
  go_enter Try.func92, Try.ntmps92
  go_wp2_with (go_at_call 30; refine HC.out.mono ?_; rintro e w1 ⟨rfl, k1⟩; rw [← HW0.out] at k1; have K1 := Lib.hid k1; obtain ⟨c0, c1, c2, c3, c4, c5⟩ := (HBX.out.same k1 (fun x => x)).c; clear k1)
  clear c0 c1 c2 c3 c4 c5
  go_loopg [7, 18, 19, 20, 21, 22, 23, 24, 25, 26, 27, 28, 29, 30, 31, 32, 33, 34, 35, 36, 37, 38, 39, 40] N (fun g s7 s18 s19 s20 s21 s22 s23 s24 s25 s26 s27 s28 s29 s30 s31 s32 s33 s34 s35 s36 s37 s38 s39 s40 wr => ∃ b : Nat, b ≤ N ∧ g = N - b ∧ s18 = .int .i64 b ∧ (∀ a, a < b → ¬ fits h most a) ∧ Kept (fun _ => False) w0 wr)
  case atStart => exact ⟨0, Nat.zero_le _, rfl, rfl, fun a ha => by omega, K1.out⟩
  case round =>
    obtain ⟨b, hbN, rfl, rfl, hno, hk⟩ := hrel
    have HNO := Lib.hid hno
    have HK := Lib.hid hk
    clear hno
    by_cases hd : b < N
    · have hdi : (b : Int) < (N : Int) := by omega
      have HD := Lib.hid hd
      obtain ⟨c0, c1, c2, c3, c4, c5⟩ := (HBX.out.same hk (fun x => x)).c
      have hw1 := fun w' k => HW1.out w' b k (by omega)
      have hw2 := fun w' k => HW2.out w' b k (by omega)
      have hdn := fun w' k => HDN.out w' b k (by have := HN.out; omega)
      obtain ⟨A, hA⟩ : ∃ A, A = dWidth h.po h.pl.length b := ⟨_, rfl⟩
      obtain ⟨B, hB⟩ : ∃ B, B = dWidth h.no h.nl.length b := ⟨_, rfl⟩
      rw [← hA] at hw1
      rw [← hB] at hw2
      have HX1 := Lib.hid hw1
      have HX2 := Lib.hid hw2
      have HDX := Lib.hid hdn
      have HF := Lib.hid (show fits h most b ↔ ((A : Int) ≤ most ∧ (B : Int) ≤ most) by unfold fits; rw [hA, hB])
      clear hw1 hw2 hdn hA hB hk hd
      by_cases hf1 : (A : Int) ≤ most
      · by_cases hf2 : (B : Int) ≤ most
        · have HF2 := Lib.hid (HF.out.mpr ⟨hf1, hf2⟩)
          obtain ⟨R, hR⟩ : ∃ R, R = downH h b := ⟨_, rfl⟩
          rw [← hR] at HDX
          have HR := Lib.hid hR
          clear hR
          go_wp2_with (first
            | (have _tok := HK3.out; go_at_call 69; refine (HX2.out _ HK3.out).mono ?_; rintro e w4 ⟨rfl, k4⟩; have HK4 := Lib.hid k4; obtain ⟨c0, c1, c2, c3, c4, c5⟩ := (HBX.out.same k4 (fun x => x)).c; clear k4)
            | (go_at_call 69; refine (HX1.out _ HK.out).mono ?_; rintro e w3 ⟨rfl, k3⟩; have HK3 := Lib.hid k3; obtain ⟨c0, c1, c2, c3, c4, c5⟩ := (HBX.out.same k3 (fun x => x)).c; clear k3)
            | (go_at_call 16; refine (HDX.out _ HK4.out).mono ?_; rintro e w5 ⟨pv, nv, rfl, m1, m2, dis⟩; unfold histV; obtain ⟨a5, q5, rfl⟩ := m1.slice; obtain ⟨a6, q6, rfl⟩ := m2.slice; have HM1 := Lib.hid m1; have HM2 := Lib.hid m2; have HDIS := Lib.hid dis; have rx5 := HRX.out.same (HK4.out.trans m1.kept) (fun x => x); have RX5 := Lib.hid rx5; obtain ⟨r0, r1, r2, r3, r4, r5⟩ := rx5.c; obtain ⟨f0, f1, f2, f3, f4, f5⟩ := rx5.f; clear m1 m2 dis rx5)
            | fail)
          refine hist_end (h := R) (pv := .slice a5 (uvals R.pl).length q5) (nv := .slice a6 (uvals R.nl).length q6) Try.results92 rfl rfl rfl (RX5.out.set R _ _) ?_
          have kk : Kept (fun _ => False) w w4 := HK0.out.trans HK4.out
          refine ⟨R, 0, .inr (.inl ⟨HE.out, b, by have := HN.out; have := HD.out; omega, HF2.out, HNO.out, HR.out, rfl⟩), _, _, rfl, ?_, ?_, HDIS.out⟩
          · exact (HM1.out.down kk).set6 RX5.out (by omega) _ _ _ _ _ _
          · exact (HM2.out.down kk).set6 RX5.out (by omega) _ _ _ _ _ _
        · have HF2 := Lib.hid (show ¬ fits h most b from fun x => hf2 (HF.out.mp x).2)
          go_wp2_with (first
            | (have _tok := HK3.out; go_at_call 69; refine (HX2.out _ HK3.out).mono ?_; rintro e w4 ⟨rfl, k4⟩; have HK4 := Lib.hid k4; clear k4)
            | (go_at_call 69; refine (HX1.out _ HK.out).mono ?_; rintro e w3 ⟨rfl, k3⟩; have HK3 := Lib.hid k3; obtain ⟨c0, c1, c2, c3, c4, c5⟩ := (HBX.out.same k3 (fun x => x)).c; clear k3)
            | fail)
          go_roundg (N - (b + 1))
          case measure => have := HD.out; omega
          case rel => exact ⟨b + 1, HD.out, rfl, by go_num, fun a ha => by rcases Nat.lt_succ_iff_lt_or_eq.mp ha with x | x; exact HNO.out a x; rw [x]; exact HF2.out, HK4.out⟩
      · have HF2 := Lib.hid (show ¬ fits h most b from fun x => hf1 (HF.out.mp x).1)
        go_wp2_with (first
          | (go_at_call 69; refine (HX1.out _ HK.out).mono ?_; rintro e w3 ⟨rfl, k3⟩; have HK3 := Lib.hid k3; clear k3)
          | fail)
        go_roundg (N - (b + 1))
        case measure => have := HD.out; omega
        case rel => exact ⟨b + 1, HD.out, rfl, by go_num, fun a ha => by rcases Nat.lt_succ_iff_lt_or_eq.mp ha with x | x; exact HNO.out a x; rw [x]; exact HF2.out, HK3.out⟩
    · obtain rfl : b = N := by omega
      have rx5 := HRX.out.same hk (fun x => x)
      have RX5 := Lib.hid rx5
      obtain ⟨r0, r1, r2, r3, r4, r5⟩ := rx5.c
      obtain ⟨f0, f1, f2, f3, f4, f5⟩ := rx5.f
      clear hd hk rx5
      go_wp2
      refine hist_end (h := zeroH) Try.results92 rfl rfl rfl (RX5.out.set zeroH (.slice none 0 0) (.slice none 0 0)) ?_
      exact ⟨zeroH, 4, .inr (.inr ⟨HE.out, fun a ha => HNO.out a (by have := HN.out; omega), rfl, rfl⟩), zeroOut (E := 4) ((HK0.out.trans HK.out).newer (set6_kept _ _ _ _ _ _ _ _) (fun i e => by omega))⟩
end Go.Proofs.Ytiiibhdohlpodaa
namespace Go.Proofs.Ytiiibhdohlpodaa
open Go.RowKit
attribute [local go_sem ↓] Go.wp_at_zero Go.wp_at_succ
set_option maxHeartbeats 4000000 in
set_option maxRecDepth 100000 in
theorem histFit_any (h : HistV) (most : Int) (pv nv : Value) (w : World) (ha : HistAt w h pv nv) (hok : h.ok) (hp : h.pl.length ≤ 1000000) (hn : h.nl.length ≤ 1000000) :
    Calls Try.prog 92 #[histV h pv nv, .int .i64 most] w (fun e w' => ∃ R E, FitOf h most R E ∧ HistOut w R E e w') := by
  obtain ⟨⟨ao, c, rfl⟩, bo, d, rfl⟩ := ha.sl
  obtain ⟨w0, hw0⟩ : ∃ w0, w0 = (w.alloc (.cells #[.int .i64 h.sc, .int .u64 (h.ze : Int), .int .i64 h.po, .slice ao h.pl.length c, .int .i64 h.no, .slice bo h.nl.length d] 30)).alloc (.cells #[.int .i64 0, .int .u64 0, .int .i64 0, .slice none 0 0, .int .i64 0, .slice none 0 0] 30) := ⟨_, rfl⟩
  have k0 : Kept (fun _ => False) w w0 := by rw [hw0]; exact ((Kept.refl _ w).alloc _).alloc _
  have bx : HistBox w0 w.heap.size h (.slice ao h.pl.length c) (.slice bo h.nl.length d) := by
    rw [hw0]; exact ((Kept.refl (fun _ => False) _).alloc _).same (heap_alloc_new w _) (fun x => x)
  have rx : HistBox w0 (w.heap.size + 1) zeroH (.slice none 0 0) (.slice none 0 0) := by
    rw [hw0]
    have := heap_alloc_new (w.alloc (.cells #[.int .i64 h.sc, .int .u64 (h.ze : Int), .int .i64 h.po, .slice ao h.pl.length c, .int .i64 h.no, .slice bo h.nl.length d] 30)) (.cells #[.int .i64 0, .int .u64 0, .int .i64 0, .slice none 0 0, .int .i64 0, .slice none 0 0] 30)
    have e : (w.alloc (.cells #[.int .i64 h.sc, .int .u64 (h.ze : Int), .int .i64 h.po, .slice ao h.pl.length c, .int .i64 h.no, .slice bo h.nl.length d] 30)).heap.size = w.heap.size + 1 := by simp
    rw [e] at this
    exact this
  have HC := Lib.hid (histCheck_any h _ _ w0 (ha.on k0) hok hp hn)
  have HA := Lib.hid fun w' (k : Kept (fun _ => False) w0 w') => ha.on (k0.trans k)
  have HK0 := Lib.hid k0
  have HBX := Lib.hid bx
  have HRX := Lib.hid rx
  have HW0 := Lib.hid hw0
  obtain ⟨E, hE⟩ : ∃ E, E = h.err := ⟨_, rfl⟩
  by_cases hE0 : h.err = 0
  · obtain ⟨hsc, l3, l4, l5⟩ := err_light hE0
    have hp2 := side_range l3
    have hn2 := side_range l4
    have hC := HC.out
    rw [hE0] at hC
    refine histFit_ok h most ao bo c d w w0 HK0.out HW0.out HBX.out HRX.out hC
      (Lib.hid fun w' b k hb => (histWidth_any h.po h.pl b _ w' (HA.out _ k).p hp2.1 hp hb).mono fun e w2 ⟨h1, h2⟩ => ⟨h1, k.trans h2⟩)
      (Lib.hid fun w' b k hb => (histWidth_any h.no h.nl b _ w' (HA.out _ k).n hn2.1 hn hb).mono fun e w2 ⟨h1, h2⟩ => ⟨h1, k.trans h2⟩)
      (Lib.hid fun w' b k hb => ?_) hsc hE0
    have := histDown_any h b _ _ w' (HA.out _ k) hok hp hn (by unfold I64; omega)
    have e1 : downE h b = 0 := by unfold downE; rw [if_neg (by omega), if_neg (by omega)]
    have e2 : downR h b = downH h b := by unfold downR; rw [e1, if_pos rfl, Int.toNat_natCast]
    rwa [e1, e2] at this
  · have HF : Hid (FitOf h most zeroH E) := Lib.hid (.inl ⟨hE0, hE, rfl⟩)
    rw [← hE] at HC hE0
    have q : ((E : Int) != 0) = true := bneT (by omega)
    rw [hw0] at HC
    have HC := Lib.hid HC.out
    clear ha k0 bx rx hw0 hE
    obtain ⟨sc, ze, po, pl, no, nl⟩ := h
    unfold histV at HC ⊢
    go_enter Try.func92, Try.ntmps92
    go_wp2_with (go_at_call 30; refine HC.out.mono ?_; rintro e w1 ⟨rfl, k1⟩; rw [← HW0.out] at k1; have K1 := Lib.hid (HK0.out.trans k1); have rx1 := HRX.out.same k1 (fun x => x); have RX1 := Lib.hid rx1; obtain ⟨r0, r1, r2, r3, r4, r5⟩ := rx1.c; obtain ⟨f0, f1, f2, f3, f4, f5⟩ := rx1.f; clear k1 rx1)
    refine hist_end (h := zeroH) Try.results92 rfl rfl rfl (RX1.out.set zeroH (.slice none 0 0) (.slice none 0 0)) ?_
    exact ⟨zeroH, E, HF.out, zeroOut (K1.out.newer (set6_kept _ _ _ _ _ _ _ _) (fun i e => by omega))⟩
end Go.Proofs.Ytiiibhdohlpodaa
namespace Go.Proofs.Ytiiibhdohlpodaa
/-- A sum over those places that are taken. -/
def wS (p : Nat → Bool) (g : Nat → Nat) : Nat → Nat
  | 0 => 0
  | n + 1 => wS p g n + if p n = true then g n else 0
theorem wS_congr (p q : Nat → Bool) (g h : Nat → Nat) (n : Nat) (e : ∀ i, i < n → p i = q i ∧ g i = h i) : wS p g n = wS q h n := by
  induction n with
  | zero => rfl
  | succ n ih => simp only [wS]; rw [ih (fun i hi => e i (by omega)), (e n (by omega)).1, (e n (by omega)).2]
theorem wS_zero (p : Nat → Bool) (n : Nat) : wS p (fun _ => 0) n = 0 := by
  induction n with
  | zero => rfl
  | succ n ih => simp [wS, ih]
theorem wS_far (p : Nat → Bool) (g : Nat → Nat) (j x n : Nat) (h : n ≤ j) : wS p (fun i => g i + if j = i then x else 0) n = wS p g n :=
  wS_congr _ _ _ _ _ fun i hi => ⟨rfl, by rw [if_neg (by omega)]; rfl⟩
theorem wS_add (p : Nat → Bool) (g : Nat → Nat) (j x n : Nat) (h : j < n) : wS p (fun i => g i + if j = i then x else 0) n = wS p g n + if p j = true then x else 0 := by
  induction n with
  | zero => omega
  | succ n ih =>
    simp only [wS]
    by_cases e : j = n
    · subst e
      rw [wS_far p g j x j (Nat.le_refl _), if_pos rfl]
      split <;> omega
    · rw [ih (by omega), if_neg e]
      simp only [Nat.add_zero]
      omega
theorem wS_down (p : Nat → Bool) (o : Int) (l : List Nat) (b m W : Nat) (h : ∀ i, i < m → dIdx o b i < W) : wS p (dSum o l b m) W = wS (fun i => p (dIdx o b i)) (fun i => l.getD i 0) m := by
  induction m with
  | zero => exact wS_zero p W
  | succ m ih =>
    have := wS_add p (dSum o l b m) (dIdx o b m) (l.getD m 0) W (h m (by omega))
    simp only [wS]
    rw [← ih (fun i hi => h i (by omega)), ← this]
    exact wS_congr _ _ _ _ _ fun i _ => ⟨rfl, rfl⟩
theorem downL_get (o : Int) (l : List Nat) (b j : Nat) (h : j < dWidth o l.length b) : (downL o l b).getD j 0 = dSum o l b l.length j := dAcc_get o l b l.length j h
theorem sum_wS (l : List Nat) : l.sum = wS (fun _ => true) (fun i => l.getD i 0) l.length := by
  suffices ∀ m, m ≤ l.length → (l.take m).sum = wS (fun _ => true) (fun i => l.getD i 0) m by
    have := this l.length (Nat.le_refl _)
    rwa [List.take_length] at this
  intro m
  induction m with
  | zero => intro _; simp [wS]
  | succ m ih =>
    intro hm
    have h1 := sumN_take 0 l m (by omega)
    unfold sumN at h1
    have := ih (by omega)
    simp only [wS, if_true]
    omega
theorem downL_sum (o : Int) (l : List Nat) (b : Nat) : (downL o l b).sum = l.sum := by
  rw [sum_wS, sum_wS l, ← wS_down (fun _ => true) o l b l.length (dWidth o l.length b) (fun i hi => dIdx_lt o _ b i hi), downL_length]
  exact wS_congr _ _ _ _ _ fun i hi => ⟨rfl, downL_get o l b i hi⟩
theorem list_ext0 {l m : List Nat} (hl : l.length = m.length) (h : ∀ j, j < l.length → l.getD j 0 = m.getD j 0) : l = m := by
  apply List.ext_getElem hl
  intro j h1 h2
  have := h j h1
  rwa [List.getD_eq_getElem?_getD, List.getD_eq_getElem?_getD, List.getElem?_eq_getElem h1, List.getElem?_eq_getElem h2] at this
theorem dSum_ge (o : Int) (l : List Nat) (b m i : Nat) (h : i < m) : l.getD i 0 ≤ dSum o l b m (dIdx o b i) := by
  induction m with
  | zero => omega
  | succ m ih =>
    simp only [dSum]
    by_cases e : i = m
    · subst e; rw [if_pos rfl]; omega
    · have := ih (by omega); omega
theorem ediv_in (x : Int) (b : Nat) (K : Int) (h0 : 0 ≤ K) (h1 : -K ≤ x) (h2 : x ≤ K) : -K ≤ x / 2 ^ b ∧ x / 2 ^ b ≤ K := by
  have hp := pow2_pos b
  constructor
  · apply (Int.le_ediv_iff_mul_le hp).2
    have : K * 1 ≤ K * 2 ^ b := Int.mul_le_mul_of_nonneg_left (by omega) h0
    rw [Int.neg_mul]
    omega
  · have : x / 2 ^ b ≤ K / 2 ^ b := Int.ediv_le_ediv hp h2
    have h3 : K / 2 ^ b ≤ K := Int.ediv_le_self _ h0
    omega
theorem sideE_down (o : Int) (l : List Nat) (b : Nat) (h : sideE o l = 0) : sideE (downO o l b) (downL o l b) = 0 := by
  unfold sideE at h ⊢
  rw [downL_length]
  by_cases h0 : l.length = 0
  · have hw : dWidth o l.length b = 0 := by unfold dWidth; rw [if_pos h0]
    rw [hw, if_neg (by omega), if_pos rfl, if_pos (by unfold downO; rw [if_pos h0])]
  · split at h
    · omega
    · split at h
      · omega
      · split at h
        · omega
        · rename_i h1 h2 h3
          have hw : dWidth o l.length b = dIdx o b (l.length - 1) + 1 := by unfold dWidth; rw [if_neg h0]
          have hle := dWidth_le o l.length b
          have ho : downO o l b = o / 2 ^ b := by unfold downO; rw [if_neg h0]
          have g0 := dSum_ge o l b l.length 0 (by omega)
          have g1 := dSum_ge o l b l.length (l.length - 1) (by omega)
          rw [dIdx_zero] at g0
          have hi := dIdx_eq o b (l.length - 1)
          have b1 := ediv_in o b 1073741824 (by omega) (by omega) (by omega)
          have b2 := ediv_in (o + ((l.length - 1 : Nat) : Int)) b 1073741824 (by omega) (by omega) (by omega)
          have e1 := downL_get o l b 0 (by omega)
          have e2 := downL_get o l b (dIdx o b (l.length - 1)) (by omega)
          rw [if_neg (by omega), if_neg (by omega)]
          rw [if_neg, if_neg]
          · rw [ho, hw]; omega
          · rw [hw, Nat.add_sub_cancel, e1, e2]; omega
end Go.Proofs.Ytiiibhdohlpodaa
namespace Go.Proofs.Ytiiibhdohlpodaa
def atP (o : Int) (l : List Nat) (m : Nat) (i : Int) : Nat := if o ≤ i ∧ i < o + (m : Int) then l.getD (i - o).toNat 0 else 0
end Go.Proofs.Ytiiibhdohlpodaa
namespace Go.Proofs.Ytiiibhdohlpodaa
open Go.RowKit
attribute [local go_sem ↓] Go.wp_at_zero Go.wp_at_succ
end Go.Proofs.Ytiiibhdohlpodaa
namespace Go.Proofs.Ytiiibhdohlpodaa
open Go.RowKit
attribute [local go_sem ↓] Go.wp_at_zero Go.wp_at_succ
end Go.Proofs.Ytiiibhdohlpodaa
namespace Go.Proofs.Ytiiibhdohlpodaa
open Go.RowKit
attribute [local go_sem ↓] Go.wp_at_zero Go.wp_at_succ
end Go.Proofs.Ytiiibhdohlpodaa
namespace Go.Proofs.Ytiiibhdohlpodaa
open Go.RowKit
attribute [local go_sem ↓] Go.wp_at_zero Go.wp_at_succ
end Go.Proofs.Ytiiibhdohlpodaa
namespace Go.Proofs.Ytiiibhdohlpodaa
open Go.RowKit
attribute [local go_sem ↓] Go.wp_at_zero Go.wp_at_succ
end Go.Proofs.Ytiiibhdohlpodaa
namespace Go.Proofs.Ytiiibhdohlpodaa
open Go.RowKit
attribute [local go_sem ↓] Go.wp_at_zero Go.wp_at_succ
theorem sum_take_le (l : List Nat) (i : Nat) : (l.take i).sum ≤ l.sum := by
  have := sumN_le 0 l i
  unfold sumN at this; omega
theorem mem_sum {l : List Nat} {x : Nat} (h : x ∈ l) : x ≤ l.sum := by
  induction l with
  | nil => cases h
  | cons a l ih =>
    rw [List.sum_cons]
    rcases List.mem_cons.1 h with e | e
    · omega
    · have := ih e; omega
theorem getD_sum (l : List Nat) (i : Nat) : l.getD i 0 ≤ l.sum := by
  rw [List.getD_eq_getElem?_getD]
  by_cases h : i < l.length
  · rw [List.getElem?_eq_getElem h]; exact mem_sum (List.getElem_mem h)
  · rw [List.getElem?_eq_none (by omega)]; simp
theorem setCell_kept (w : World) (q j : Nat) (x : Value) : Kept (fun k => k = q) w (w.setCell ⟨q, j, none⟩ x) := (Kept.refl (fun k => k = q) w).setCell (p := ⟨q, j, none⟩) (fun _ => rfl) x
end Go.Proofs.Ytiiibhdohlpodaa
namespace Go.Proofs.Ytiiibhdohlpodaa
open Go.RowKit
attribute [local go_sem ↓] Go.wp_at_zero Go.wp_at_succ
theorem hist_alloc (w : World) : HistBox (w.alloc (.cells #[.int .i64 0, .int .u64 0, .int .i64 0, .slice none 0 0, .int .i64 0, .slice none 0 0] 30)) w.heap.size zeroH (.slice none 0 0) (.slice none 0 0) := heap_alloc_new w _
end Go.Proofs.Ytiiibhdohlpodaa
namespace Go.Proofs.Ytiiibhdohlpodaa
open Go.RowKit
attribute [local go_sem ↓] Go.wp_at_zero Go.wp_at_succ
end Go.Proofs.Ytiiibhdohlpodaa
namespace Go.Proofs.Ytiiibhdohlpodaa
open Go.RowKit
attribute [local go_sem ↓] Go.wp_at_zero Go.wp_at_succ
end Go.Proofs.Ytiiibhdohlpodaa

