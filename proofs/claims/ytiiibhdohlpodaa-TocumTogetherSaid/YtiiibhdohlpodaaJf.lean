/- Texts put together for a seat that lacks some of the functions: H0 H1 H2 H3 HS H4 HX H5 H6 H7 H8 H81 H82 H9 H10 HA HB J1 J2 J3 J4 J5 J6 J7 J8 J9 (tools/strip.py). -/
import Derived.Test.YtiiibhdohlpodaaRows
import Derived.Laws.Externs
import Derived.Laws.OwnMore
import Derived.Deep.RegionLaw
import Derived.Test.YtiiibhdohlpodaaJi
-- H0
namespace Go.Proofs.Ytiiibhdohlpodaa

end Go.Proofs.Ytiiibhdohlpodaa

-- H1
namespace Go.Proofs.Ytiiibhdohlpodaa
open Go.RowKit
attribute [local go_sem ↓] Go.wp_at_zero Go.wp_at_succ

end Go.Proofs.Ytiiibhdohlpodaa

-- H2
namespace Go.Proofs.Ytiiibhdohlpodaa
open Go.RowKit
attribute [local go_sem ↓] Go.wp_at_zero Go.wp_at_succ

end Go.Proofs.Ytiiibhdohlpodaa

-- H3
namespace Go.Proofs.Ytiiibhdohlpodaa
open Go.RowKit
attribute [local go_sem ↓] Go.wp_at_zero Go.wp_at_succ

end Go.Proofs.Ytiiibhdohlpodaa

-- HS
namespace Go.Proofs.Ytiiibhdohlpodaa
open Go.RowKit
attribute [local go_sem ↓] Go.wp_at_zero Go.wp_at_succ

end Go.Proofs.Ytiiibhdohlpodaa

-- H4
namespace Go.Proofs.Ytiiibhdohlpodaa
open Go.RowKit
attribute [local go_sem ↓] Go.wp_at_zero Go.wp_at_succ

/-- What a bucket holds. -/
def atN (o : Int) (l : List Nat) (i : Int) : Nat := if o ≤ i ∧ i < o + (l.length : Int) then l.getD (i - o).toNat 0 else 0

set_option maxHeartbeats 1000000 in
theorem histAt_any (o i : Int) (l : List Nat) (v : Value) (w : World) (hv : SlAt w v (uvals l)) (ho : I64 o) (hi : I64 i) (hl : l.length ≤ 1000000) :
    Calls Try.prog 119 #[.agg #[.int .i64 o, v], .int .i64 i] w fun e w' => e = .returned (.int .u64 ((atN o l i : Nat) : Int)) ∧ Kept (fun _ => False) w w' := by
  obtain ⟨h0, h1⟩ := ho
  obtain ⟨i0, i1⟩ := hi
  have hv1 := hv.kept ((Kept.refl (fun _ => False) w).alloc (.cells #[.int .i64 o, v] 28)) (fun _ _ x => x)
  obtain ⟨ao, c, hval, _, _⟩ := hv.val
  rw [uvals_length] at hval
  subst hval
  by_cases h : i < o
  · have e : atN o l i = 0 := by unfold atN; rw [if_neg (by omega)]
    rw [e]
    clear hv hv1 e
    go_enter Try.func119, Try.ntmps119
    go_wp2
    go_ret
    exact ⟨rfl, (Kept.refl _ _).alloc _⟩
  · obtain ⟨k, hk⟩ : ∃ k : Nat, (k : Int) = i - o := ⟨(i - o).toNat, by omega⟩
    have ui := uN_u64 i
    have uo := uN_u64 o
    have hui : ((uN i : Nat) : Int) = i % 18446744073709551616 := by rw [← ui, IntKind.wrap_u64]
    have huo : ((uN o : Nat) : Int) = o % 18446744073709551616 := by rw [← uo, IntKind.wrap_u64]
    have uk : IntKind.u64.wrap (((uN i : Nat) : Int) - ((uN o : Nat) : Int)) = (k : Int) := by rw [IntKind.wrap_u64, hui, huo]; omega
    obtain ⟨UI, hUI⟩ : ∃ U, U = uN i := ⟨_, rfl⟩
    obtain ⟨UO, hUO⟩ : ∃ U, U = uN o := ⟨_, rfl⟩
    rw [← hUI] at ui uk
    rw [← hUO] at uo uk
    have ul : IntKind.u64.wrap (l.length : Int) = (l.length : Int) := by rw [IntKind.wrap_u64]; omega
    by_cases hlt : l.length ≤ k
    · have e : atN o l i = 0 := by unfold atN; rw [if_neg (by omega)]
      have q : (l.length : Int) ≤ (k : Int) := by omega
      have qb : decide (l.length ≤ k) = true := decide_eq_true hlt
      rw [e]
      clear hv hv1 e hk hUI hUO hui huo hlt
      go_enter Try.func119, Try.ntmps119
      go_wp2
      go_ret
      exact ⟨rfl, (Kept.refl _ _).alloc _⟩
    · have hkl : k < l.length := by omega
      have e : atN o l i = l.getD k 0 := by
        unfold atN
        rw [if_pos (by omega)]
        congr 1; omega
      have q : ¬ (l.length : Int) ≤ (k : Int) := by omega
      have qb : decide (l.length ≤ k) = false := decide_eq_false hlt
      obtain ⟨g, off, e1, c0⟩ := hv1.elem (uvals_get hkl)
      subst e1
      obtain ⟨x, hx⟩ : ∃ x, x = l.getD k 0 := ⟨_, rfl⟩
      rw [← hx] at c0 e
      rw [e]
      have k0 : (0 : Int) ≤ (k : Int) := by omega
      have k1 : (k : Int) < (l.length : Int) := by omega
      clear hv hv1 e hk hUI hUO hui huo hlt hx
      go_enter Try.func119, Try.ntmps119
      go_wp2
      go_ret
      exact ⟨rfl, (Kept.refl _ _).alloc _⟩

end Go.Proofs.Ytiiibhdohlpodaa

-- HX
namespace Go.Proofs.Ytiiibhdohlpodaa
open Go.RowKit
attribute [local go_sem ↓] Go.wp_at_zero Go.wp_at_succ

end Go.Proofs.Ytiiibhdohlpodaa

-- H5
namespace Go.Proofs.Ytiiibhdohlpodaa
open Go.RowKit
attribute [local go_sem ↓] Go.wp_at_zero Go.wp_at_succ

/-- What a side is without empty buckets at its ends. -/
def TrimOf (o : Int) (l : List Nat) (o' : Int) (l' : List Nat) : Prop :=
  ((∀ j, j < l.length → l.getD j 0 = 0) ∧ o' = 0 ∧ l' = []) ∨
  ∃ a b, a < b ∧ b ≤ l.length ∧ (∀ j, j < a → l.getD j 0 = 0) ∧ (∀ j, b ≤ j → j < l.length → l.getD j 0 = 0) ∧ l.getD a 0 ≠ 0 ∧ l.getD (b - 1) 0 ≠ 0 ∧ o' = o + (a : Int) ∧ l' = (l.drop a).take (b - a)
theorem TrimOf.uniq {o : Int} {l : List Nat} {o1 o2 : Int} {l1 l2 : List Nat} (h1 : TrimOf o l o1 l1) (h2 : TrimOf o l o2 l2) : o1 = o2 ∧ l1 = l2 := by
  rcases h1 with ⟨z1, rfl, rfl⟩ | ⟨a, b, hab, hb, ha0, hb0, hna, hnb, rfl, rfl⟩
  · rcases h2 with ⟨_, rfl, rfl⟩ | ⟨a, b, hab, hb, _, _, hna, _⟩
    · exact ⟨rfl, rfl⟩
    · exact absurd (z1 a (by omega)) hna
  · rcases h2 with ⟨z2, rfl, rfl⟩ | ⟨a', b', hab', hb', ha0', hb0', hna', hnb', rfl, rfl⟩
    · exact absurd (z2 a (by omega)) hna
    · have e1 : a = a' := by
        rcases Nat.lt_trichotomy a a' with h | h | h
        · exact absurd (ha0' a h) hna
        · exact h
        · exact absurd (ha0 a' h) hna'
      have e2 : b = b' := by
        rcases Nat.lt_trichotomy b b' with h | h | h
        · exact absurd (hb0 (b' - 1) (by omega) (by omega)) hnb'
        · exact h
        · exact absurd (hb0' (b - 1) (by omega) (by omega)) hnb
      subst e1 e2
      exact ⟨rfl, rfl⟩

/-- What a call answers that makes a side. -/
def SideOut (w : World) (P : Int → List Nat → Prop) (e : Ending) (w' : World) : Prop := ∃ o' l' v', P o' l' ∧ e = .returned (.agg #[.int .i64 o', v']) ∧ Mine w w' 25 v' (uvals l')

theorem two_kept {W w : World} {g : Nat} {x y : Value} (h : Kept (fun _ => False) W w) (hg : W.heap.size ≤ g) : Kept (fun _ => False) W ((w.setCell ⟨g, 0, none⟩ x).setCell ⟨g, 1, none⟩ y) :=
  (h.setCell (p := ⟨g, 0, none⟩) (fun hlt => by simp only at hlt; omega) x).setCell (p := ⟨g, 1, none⟩) (fun hlt => by simp only at hlt; omega) y
theorem Mine.setBox {W w : World} {E : TypeId} {v : Value} {xs : List Value} {q : Nat} {o : Int} {v0 : Value} (h : Mine W w E v xs) (hb : SideBox w q o v0) (hE : E ≠ 28) (hq : W.heap.size ≤ q) (x y : Value) : Mine W ((w.setCell ⟨q, 0, none⟩ x).setCell ⟨q, 1, none⟩ y) E v xs :=
  h.keptS (((Kept.refl (fun k => k = q) w).setCell (p := ⟨q, 0, none⟩) (fun _ => rfl) x).setCell (p := ⟨q, 1, none⟩) (fun _ => rfl) y) (fun k e x => own_box h.own hb hE (by rw [e, x])) (fun k e => by omega)
set_option maxHeartbeats 4000000 in
set_option maxRecDepth 100000 in
theorem histTrim_any (o : Int) (l : List Nat) (v : Value) (w : World) (hv : SlAt w v (uvals l)) (hcap : ∀ a n c, v = .slice a n c → n ≤ c) (ho : -4000000000000000000 ≤ o ∧ o ≤ 4000000000000000000) (hl : l.length ≤ 1000000) :
    Calls Try.prog 120 #[.agg #[.int .i64 o, v]] w (SideOut w (TrimOf o l)) := by
  obtain ⟨h0, h1⟩ := ho
  have hv0 := Lib.hid hv
  obtain ⟨ao, c, hval, _, _⟩ := hv.val
  rw [uvals_length] at hval
  subst hval
  have hcp := hcap _ _ _ rfl
  clear hv hcap
  go_enter Try.func120, Try.ntmps120
  go_wp2
  go_quiet (fail)
  obtain ⟨w2, hw2⟩ : ∃ w2, w2 = (((w.alloc (.cells #[.int .i64 o, .slice ao l.length c] 28)).alloc (.cells #[.int .i64 0, .slice none 0 0] 28)).drewN nq) := ⟨_, rfl⟩
  have k2 : Kept (fun _ => False) w w2 := by rw [hw2]; exact (((Kept.refl _ w).alloc _).alloc _).drewN _
  have bx : SideBox w2 w.heap.size o (.slice ao l.length c) := by
    rw [hw2]
    exact (((Kept.refl (fun _ => False) (w.alloc (.cells #[.int .i64 o, .slice ao l.length c] 28))).alloc _).drewN nq).same (heap_alloc_new w _) (fun x => x)
  have rx : SideBox w2 (w.heap.size + 1) 0 (.slice none 0 0) := by
    rw [hw2]
    have := heap_alloc_new (w.alloc (.cells #[.int .i64 o, .slice ao l.length c] 28)) (.cells #[.int .i64 0, .slice none 0 0] 28)
    simpa [SideBox] using this
  rw [← hw2]
  have K2 := Lib.hid k2
  have RX := Lib.hid rx
  have BX := Lib.hid bx
  obtain ⟨⟨b0, b1⟩, _⟩ := bx.c
  have HCELL := Lib.hid fun j (hj : j < l.length) => (hv0.out.kept K2.out (fun _ _ x => x)).elem (uvals_get hj)
  clear hw2 k2 bx rx
  go_wp2
  go_loopg [3] l.length (fun g s3 wr => ∃ i : Nat, i ≤ l.length ∧ g = l.length - i ∧ s3 = .int .i64 i ∧ (∀ j, j < i → l.getD j 0 = 0) ∧ w2 = wr)
  case atStart => exact ⟨0, Nat.zero_le _, rfl, rfl, fun j h => by omega, rfl⟩
  case round =>
    obtain ⟨i, hil, rfl, rfl, hz, rfl⟩ := hrel
    have HZ := Lib.hid hz
    have i0 : (0 : Int) ≤ (i : Int) := by omega
    clear hz
    by_cases hgo : i < l.length ∧ l.getD i 0 = 0
    · obtain ⟨hd, hx⟩ := hgo
      have hdi : (i : Int) < (l.length : Int) := by omega
      obtain ⟨g, off, rfl, c0⟩ := HCELL.out i hd
      rw [hx] at c0
      have c0' : w2.cell? ⟨g, off + i, none⟩ = some (.int .u64 0) := c0
      have HD := Lib.hid hd
      have HZ2 := Lib.hid (show ∀ j, j < i + 1 → l.getD j 0 = 0 from fun j hj => by
        by_cases e : j = i
        · rw [e]; exact hx
        · exact HZ.out j (by omega))
      clear c0 hx hd
      go_wp2
      go_roundg (l.length - (i + 1))
      case measure => have := HD.out; omega
      case rel => exact ⟨i + 1, HD.out, rfl, by go_num, HZ2.out, rfl⟩
    · have hstop : i = l.length ∨ (i < l.length ∧ l.getD i 0 ≠ 0) := by
        by_cases e : i = l.length
        · exact .inl e
        · exact .inr ⟨by omega, fun h => hgo ⟨by omega, h⟩⟩
      clear hgo
      rcases hstop with rfl | ⟨hd, hx⟩
      · have HF : Hid (TrimOf o l 0 []) := Lib.hid (.inl ⟨HZ.out, rfl, rfl⟩)
        clear hil HCELL
        go_wp2
        go_loopg [4] 0 (fun g s4 wr => g = 0 ∧ s4 = .int .i64 l.length ∧ w2 = wr)
        case atStart => exact ⟨rfl, rfl, rfl⟩
        case round =>
          obtain ⟨rfl, rfl, rfl⟩ := hrel
          obtain ⟨⟨r0, r1⟩, f0, f1⟩ := RX.out.c
          go_wp2
          refine side_end (o := 0) (v := .slice none 0 0) Try.results120 rfl rfl (RX.out.set 0 (.slice none 0 0)) ?_
          exact ⟨0, [], _, HF.out, rfl, Mine.nil' _ (two_kept K2.out (by omega))⟩
      · have hdi : (i : Int) < (l.length : Int) := by omega
        obtain ⟨g, off, rfl, c0⟩ := HCELL.out i hd
        have HCE := Lib.hid fun j (hj : j < l.length) => show w2.cell? ⟨g, off + j, none⟩ = some (.int .u64 ((l.getD j 0 : Nat) : Int)) from by
          obtain ⟨_, _, e', b⟩ := HCELL.out j hj
          injection e' with e'; injection e' with e1 e2; subst e1; subst e2
          exact b
        obtain ⟨x, hxe⟩ : ∃ x, x = l.getD i 0 := ⟨_, rfl⟩
        rw [← hxe] at c0 hx
        have q : ((x : Int) == 0) = false := beqF (by omega)
        have HXE := Lib.hid hxe
        have HXN := Lib.hid hx
        have HD := Lib.hid hd
        clear hxe hx hd hil HCELL
        go_wp2
        go_loopg [4] l.length (fun g' s4 wr => ∃ b : Nat, i < b ∧ b ≤ l.length ∧ g' = b ∧ s4 = .int .i64 b ∧ (∀ j, b ≤ j → j < l.length → l.getD j 0 = 0) ∧ w2 = wr)
        case atStart => exact ⟨l.length, HD.out, Nat.le_refl _, rfl, rfl, fun j h1 h2 => by omega, rfl⟩
        case round =>
          obtain ⟨b, hib, hbl, rfl, rfl, hz2, rfl⟩ := hrel
          have HZ2 := Lib.hid hz2
          obtain ⟨b', hb'⟩ : ∃ b', b' = gk - 1 := ⟨_, rfl⟩
          have hbi : (i : Int) < (gk : Int) := by omega
          have e1 : IntKind.i64.wrap ((gk : Int) - 1) = (b' : Int) := by rw [IntWalk.i64_in _ ⟨by omega, by omega⟩]; omega
          have e2 : (gk : Int) - 1 = (b' : Int) := by omega
          have b'0 : (0 : Int) ≤ (b' : Int) := by omega
          have b'l : (b' : Int) < (l.length : Int) := by omega
          have cb := HCE.out b' (by omega)
          obtain ⟨y, hye⟩ : ∃ y, y = l.getD b' 0 := ⟨_, rfl⟩
          rw [← hye] at cb
          clear hz2
          by_cases hy : y = 0
          · have hne : b' ≠ i := by
              intro e
              rw [e, ← HXE.out] at hye
              exact HXN.out (by rw [← hye]; exact hy)
            have qy : ((y : Int) == 0) = true := beqT (by omega)
            have HZ3 := Lib.hid (show ∀ j, b' ≤ j → j < l.length → l.getD j 0 = 0 from fun j h1 h2 => by
              by_cases e : j = b'
              · rw [e, ← hye]; exact hy
              · exact HZ2.out j (by omega) h2)
            have HB := Lib.hid (show i < b' ∧ b' ≤ l.length ∧ b' < gk by omega)
            clear hye hy hb' hbl hib hne
            go_wp2
            go_roundg b'
            case measure => exact HB.out.2.2
            case rel => exact ⟨b', HB.out.1, HB.out.2.1, rfl, rfl, HZ3.out, rfl⟩
          · have qy : ((y : Int) == 0) = false := beqF (by omega)
            have hne : ((i : Int) == (gk : Int)) = false := beqF (by omega)
            have HF : Hid (TrimOf o l (o + (i : Int)) ((l.drop i).take (gk - i))) := Lib.hid (.inr ⟨i, gk, hib, hbl, HZ.out, HZ2.out, by rw [← HXE.out]; exact HXN.out, by rw [← hb', ← hye]; exact hy, rfl, rfl⟩)
            have ow : IntKind.i64.wrap (o + (i : Int)) = o + (i : Int) := IntWalk.i64_in _ ⟨by omega, by omega⟩
            obtain ⟨n, hn⟩ : ∃ n, n = gk - i := ⟨_, rfl⟩
            obtain ⟨iU, hiU, hzU0, hzU1, hzU2⟩ := info_parts Try.infoU64
            have hct := hv0.out.cut (lo := i) (hi := gk) (by omega) (by omega) hcp
            obtain ⟨ao2, hao2⟩ : ∃ a : Option Addr, a = if c = i then some ⟨g, off, none⟩ else (some (⟨g, off, none⟩ : Addr)).map (·.add i) := ⟨_, rfl⟩
            rw [← hao2, ← hn] at hct
            have hbx : ((uvals l).drop i).take n = uvals ((l.drop i).take n) := by unfold uvals; rw [List.map_take, List.map_drop]
            rw [hbx] at hct
            rw [← hn] at HF
            have s1 : ∀ w, (Instr.slice 26 (.slice (some ⟨g, off, none⟩) l.length c) (some (.int .i64 (i : Int))) (some (.int .i64 (gk : Int))) none).run Try.prog w = .ok (.slice ao2 n (c - i)) w := fun w => by
              have := run_cut (P := Try.prog) Try.underlying26 hiU hzU1 (some ⟨g, off, none⟩) l.length c i gk (by omega) (by omega) w
              rw [← hao2, ← hn] at this; exact this
            have s2 : ∀ w, (Instr.sliceAt 26 (.slice (some ⟨g, off, none⟩) l.length c) (some (.int .i64 (i : Int))) (some (.int .i64 (gk : Int))) none).run Try.prog w = .ok (.slice ao2 n (c - i)) w := fun w => by
              have := run_cutAt (P := Try.prog) Try.underlying26 hiU hzU1 (some ⟨g, off, none⟩) l.length c i gk (by omega) (by omega) w
              rw [← hao2, ← hn] at this; exact this
            have HCL := Lib.hid fun w' (h : Kept (fun _ => False) w w') => sclone_any _ _ w' (hct.kept h (fun _ _ x => x)) (uvals_one _) (by rw [uvals_length, List.length_take, List.length_drop]; omega)
            have kd : Kept (fun _ => False) w w2.drew := K2.out.drew
            clear hye hy hb' hbl hib hn hao2 hct hbx c0
            go_wp2
            go_region_held3 (fun w' => w'.cell? ⟨w.heap.size, 0, none⟩ = some (.int .i64 o) ∧ w'.cell? ⟨w.heap.size, 1, none⟩ = some (.slice (some ⟨g, off, none⟩) l.length c)) (first | exact ⟨b0, b1⟩ | exact HB3.out | go_keep)
              (first
                | (go_at_call 73; refine (HCL.out _ (by assumption)).mono ?_; rintro e w3 ⟨v3, rfl, hm3⟩; obtain ⟨a3, c3, rfl⟩ := hm3.slice; have HM3 := Lib.hid (hm3.down kd); have bx3 := (BX.out.same ((Kept.refl (fun _ => False) w2).drew.trans hm3.kept) (fun x => x)); have HB3 := Lib.hid bx3.c.1; have rx3 := RX.out.same ((Kept.refl (fun _ => False) w2).drew.trans hm3.kept) (fun x => x); have RX3 := Lib.hid rx3; have r0 := rx3.c.1.1; have r1 := rx3.c.1.2; have f0 := rx3.c.2.1; have f1 := rx3.c.2.2; clear hm3 bx3 rx3)
                | fail)
            go_wp2
            refine side_end (o := o + (i : Int)) (v := .slice a3 (uvals ((l.drop i).take n)).length c3) Try.results120 rfl rfl (RX3.out.set _ _) ?_
            exact ⟨o + (i : Int), _, _, HF.out, rfl, HM3.out.setBox RX3.out (by decide) (by omega) _ _⟩
end Go.Proofs.Ytiiibhdohlpodaa

-- H6
namespace Go.Proofs.Ytiiibhdohlpodaa

/-- Which bucket a bucket of a side goes to. -/
def dIdx (o : Int) (b i : Nat) : Nat := ((o + (i : Int)) / 2 ^ b - o / 2 ^ b).toNat
theorem pow2_pos (b : Nat) : (0 : Int) < 2 ^ b := Int.pow_pos (by omega)
theorem dIdx_eq (o : Int) (b i : Nat) : ((dIdx o b i : Nat) : Int) = (o + (i : Int)) / 2 ^ b - o / 2 ^ b := by
  have : o / 2 ^ b ≤ (o + (i : Int)) / 2 ^ b := Int.ediv_le_ediv (pow2_pos b) (by omega)
  unfold dIdx; omega
theorem dIdx_mono (o : Int) (b i j : Nat) (h : i ≤ j) : dIdx o b i ≤ dIdx o b j := by
  have : (o + (i : Int)) / 2 ^ b ≤ (o + (j : Int)) / 2 ^ b := Int.ediv_le_ediv (pow2_pos b) (by omega)
  have h1 := dIdx_eq o b i
  have h2 := dIdx_eq o b j
  omega
theorem dIdx_zero (o : Int) (b : Nat) : dIdx o b 0 = 0 := by
  have := dIdx_eq o b 0
  simp at this; omega
/-- How many buckets there are. -/
def dWidth (o : Int) (n b : Nat) : Nat := if n = 0 then 0 else dIdx o b (n - 1) + 1
theorem dIdx_lt (o : Int) (n b i : Nat) (h : i < n) : dIdx o b i < dWidth o n b := by
  unfold dWidth
  rw [if_neg (by omega)]
  have := dIdx_mono o b i (n - 1) (by omega)
  omega
theorem dIdx_le (o : Int) (b i : Nat) : dIdx o b i ≤ i := by
  have h := dIdx_eq o b i
  have h1 : (o + (i : Int)) / 2 ^ b ≤ o / 2 ^ b + (i : Int) := by
    have hp := pow2_pos b
    have h2 : o + (i : Int) ≤ o + (i : Int) * 2 ^ b := by
      have : (i : Int) * 1 ≤ (i : Int) * 2 ^ b := Int.mul_le_mul_of_nonneg_left (by omega) (by omega)
      omega
    have h3 := Int.ediv_le_ediv hp h2
    rwa [Int.add_mul_ediv_right _ _ (by omega)] at h3
  omega
theorem dWidth_le (o : Int) (n b : Nat) : dWidth o n b ≤ n := by
  unfold dWidth
  split
  · omega
  · have := dIdx_le o b (n - 1); omega
/-- What comes into a bucket of the first m. -/
def dSum (o : Int) (l : List Nat) (b : Nat) : Nat → Nat → Nat
  | 0, _ => 0
  | m + 1, j => dSum o l b m j + if dIdx o b m = j then l.getD m 0 else 0
theorem dSum_le (o : Int) (l : List Nat) (b m j : Nat) (h : m ≤ l.length) : dSum o l b m j ≤ (l.take m).sum := by
  induction m with
  | zero => simp [dSum]
  | succ m ih =>
    have h1 := sumN_take 0 l m (by omega)
    unfold sumN at h1
    have := ih (by omega)
    simp only [dSum]
    split <;> omega
theorem dSum_le_sum (o : Int) (l : List Nat) (b m j : Nat) (h : m ≤ l.length) : dSum o l b m j ≤ l.sum := by
  have h1 := dSum_le o l b m j h
  have h2 := sumN_le 0 l m
  unfold sumN at h2
  omega
/-- The buckets that come of the first m. -/
def dAcc (o : Int) (l : List Nat) (b m : Nat) : List Nat := (List.range (dWidth o l.length b)).map (dSum o l b m)
@[simp] theorem dAcc_length (o : Int) (l : List Nat) (b m : Nat) : (dAcc o l b m).length = dWidth o l.length b := by simp [dAcc]
theorem dAcc_get (o : Int) (l : List Nat) (b m j : Nat) (h : j < dWidth o l.length b) : (dAcc o l b m).getD j 0 = dSum o l b m j := by
  simp [dAcc, List.getD_eq_getElem?_getD, h]
theorem dAcc_zero (o : Int) (l : List Nat) (b : Nat) : dAcc o l b 0 = List.replicate (dWidth o l.length b) 0 := by
  apply List.ext_getElem?
  intro j
  simp only [dAcc, List.getElem?_map, List.getElem?_replicate]
  by_cases h : j < dWidth o l.length b
  · rw [List.getElem?_range h, if_pos h]; rfl
  · rw [if_neg h, List.getElem?_eq_none (by simp; omega)]; rfl
theorem dAcc_succ (o : Int) (l : List Nat) (b m : Nat) : dAcc o l b (m + 1) = (dAcc o l b m).set (dIdx o b m) (dSum o l b m (dIdx o b m) + l.getD m 0) := by
  apply List.ext_getElem?
  intro j
  rw [List.getElem?_set]
  simp only [dAcc, List.getElem?_map, List.length_map, List.length_range]
  by_cases h : j < dWidth o l.length b
  · rw [List.getElem?_range h]
    by_cases e : dIdx o b m = j
    · rw [if_pos e, if_pos (by omega)]; subst e; simp [dSum]
    · rw [if_neg e]; simp [dSum, e]
  · rw [List.getElem?_eq_none (by simp; omega)]
    by_cases e : dIdx o b m = j
    · rw [if_pos e, if_neg (by omega)]; rfl
    · rw [if_neg e]; rfl
/-- A side, more coarsely. -/
def downL (o : Int) (l : List Nat) (b : Nat) : List Nat := dAcc o l b l.length
def downO (o : Int) (l : List Nat) (b : Nat) : Int := if l.length = 0 then 0 else o / 2 ^ b
@[simp] theorem downL_length (o : Int) (l : List Nat) (b : Nat) : (downL o l b).length = dWidth o l.length b := by simp [downL]
end Go.Proofs.Ytiiibhdohlpodaa

-- H7
namespace Go.Proofs.Ytiiibhdohlpodaa
open Go.RowKit
attribute [local go_sem ↓] Go.wp_at_zero Go.wp_at_succ

theorem ediv_bound (x : Int) (b : Nat) (M : Int) (h0 : -M ≤ x) (h1 : x ≤ M) (hM : 0 ≤ M) : -M ≤ x / 2 ^ b ∧ x / 2 ^ b ≤ M := by
  have hp := pow2_pos b
  constructor
  · have h2 : -M * 2 ^ b ≤ x := by
      have : M * 1 ≤ M * 2 ^ b := Int.mul_le_mul_of_nonneg_left (by omega) hM
      rw [Int.neg_mul]; omega
    rw [← Int.mul_ediv_cancel (-M) (show (2 : Int) ^ b ≠ 0 by omega)]
    exact Int.ediv_le_ediv hp h2
  · have h2 : x ≤ M * 2 ^ b := by
      have : M * 1 ≤ M * 2 ^ b := Int.mul_le_mul_of_nonneg_left (by omega) hM
      omega
    rw [← Int.mul_ediv_cancel M (show (2 : Int) ^ b ≠ 0 by omega)]
    exact Int.ediv_le_ediv hp h2

set_option maxHeartbeats 1000000 in
theorem histWidth_any (o : Int) (l : List Nat) (b : Nat) (v : Value) (w : World) (hv : SlAt w v (uvals l)) (ho : -1000000000000 ≤ o ∧ o ≤ 1000000000000) (hl : l.length ≤ 1000000) (hb : b ≤ 60) :
    Calls Try.prog 69 #[.agg #[.int .i64 o, v], .int .i64 b] w fun e w' => e = .returned (.int .i64 ((dWidth o l.length b : Nat) : Int)) ∧ Kept (fun _ => False) w w' := by
  obtain ⟨h0, h1⟩ := ho
  obtain ⟨ao, c, hval, _, _⟩ := hv.val
  rw [uvals_length] at hval
  subst hval
  by_cases hz : l.length = 0
  · have e : dWidth o l.length b = 0 := by unfold dWidth; rw [if_pos hz]
    have q : ((l.length : Int) == 0) = true := beqT (by omega)
    rw [e]
    clear hv hz e
    go_enter Try.func69, Try.ntmps69
    go_wp2
    go_ret
    exact ⟨rfl, (Kept.refl _ _).alloc _⟩
  · have q : ((l.length : Int) == 0) = false := beqF (by omega)
    obtain ⟨N, hN⟩ : ∃ N, N = l.length - 1 := ⟨_, rfl⟩
    have hd := dIdx_eq o b N
    have hw : dWidth o l.length b = dIdx o b N + 1 := by unfold dWidth; rw [if_neg hz, hN]
    have b1 := ediv_bound (o + (N : Int)) b 2000000000000 (by omega) (by omega) (by omega)
    have b2 := ediv_bound o b 2000000000000 (by omega) (by omega) (by omega)
    obtain ⟨A, hA⟩ : ∃ A, A = (o + (N : Int)) / 2 ^ b := ⟨_, rfl⟩
    obtain ⟨B, hB⟩ : ∃ B, B = o / 2 ^ b := ⟨_, rfl⟩
    rw [← hA] at hd b1
    rw [← hB] at hd b2
    obtain ⟨W, hW⟩ : ∃ W, W = dWidth o l.length b := ⟨_, rfl⟩
    have s1 : IntKind.i64.wrap (o + (l.length : Int)) = o + (l.length : Int) := IntWalk.i64_in _ ⟨by omega, by omega⟩
    have s2 : IntKind.i64.wrap (o + (l.length : Int) - 1) = o + (N : Int) := by rw [IntWalk.i64_in _ ⟨by omega, by omega⟩]; omega
    have s2' : o + (l.length : Int) - 1 = o + (N : Int) := by omega
    have s3 : (o + (N : Int)) / 2 ^ b = A := hA.symm
    have s4 : o / 2 ^ b = B := hB.symm
    have s5 : IntKind.i64.wrap (A - B) = A - B := IntWalk.i64_in _ ⟨by omega, by omega⟩
    have s6 : IntKind.i64.wrap (A - B + 1) = (W : Int) := by rw [IntWalk.i64_in _ ⟨by omega, by omega⟩]; omega
    have s6' : A - B + 1 = (W : Int) := by omega
    have bb0 : (0 : Int) ≤ (b : Int) := by omega
    have mb : min b 64 = b := by omega
    rw [← hW]
    clear hv hz hN hd hw hA hB hW
    go_enter Try.func69, Try.ntmps69
    go_wp2
    go_quiet (fail)
    go_wp2
    go_ret
    exact ⟨rfl, ((Kept.refl _ _).alloc _).drewN _⟩

theorem made1 {w w3 : World} (hk : Kept (fun _ => False) w w3) (W : Nat) (O : Int) (hW : W ≤ maxLen) :
    SideBox (((w3.alloc (.cells (Array.replicate W (.int .u64 0)) 25)).alloc (.cells #[.int .i64 O, .slice (some ⟨w3.heap.size, 0, none⟩) W W] 28)).drew) (w3.heap.size + 1) O (.slice (some ⟨w3.heap.size, 0, none⟩) W W) ∧
    Mine w (((w3.alloc (.cells (Array.replicate W (.int .u64 0)) 25)).alloc (.cells #[.int .i64 O, .slice (some ⟨w3.heap.size, 0, none⟩) W W] 28)).drew) 25 (.slice (some ⟨w3.heap.size, 0, none⟩) W W) (List.replicate W (.int .u64 0)) ∧
    Kept (fun _ => False) w3 (((w3.alloc (.cells (Array.replicate W (.int .u64 0)) 25)).alloc (.cells #[.int .i64 O, .slice (some ⟨w3.heap.size, 0, none⟩) W W] 28)).drew) := by
  refine ⟨?_, ?_, (((Kept.refl _ w3).alloc _).alloc _).drew⟩
  · have := heap_alloc_new (w3.alloc (.cells (Array.replicate W (.int .u64 0)) 25)) (.cells #[.int .i64 O, .slice (some ⟨w3.heap.size, 0, none⟩) W W] 28)
    have e : (w3.alloc (.cells (Array.replicate W (.int .u64 0)) 25)).heap.size = w3.heap.size + 1 := by simp
    rw [e] at this
    exact this
  · exact (mine_made hk W (.int .u64 0) 25 hW).on (((Kept.refl _ _).alloc _).drew)
theorem made2 {w w3 : World} (hk : Kept (fun _ => False) w w3) (W : Nat) (O : Int) (hW : W ≤ maxLen) :
    SideBox (((w3.alloc (.cells #[.int .i64 O, .slice (some ⟨w3.heap.size + 1, 0, none⟩) W W] 28)).alloc (.cells (Array.replicate W (.int .u64 0)) 25)).drew) w3.heap.size O (.slice (some ⟨w3.heap.size + 1, 0, none⟩) W W) ∧
    Mine w (((w3.alloc (.cells #[.int .i64 O, .slice (some ⟨w3.heap.size + 1, 0, none⟩) W W] 28)).alloc (.cells (Array.replicate W (.int .u64 0)) 25)).drew) 25 (.slice (some ⟨w3.heap.size + 1, 0, none⟩) W W) (List.replicate W (.int .u64 0)) ∧
    Kept (fun _ => False) w3 (((w3.alloc (.cells #[.int .i64 O, .slice (some ⟨w3.heap.size + 1, 0, none⟩) W W] 28)).alloc (.cells (Array.replicate W (.int .u64 0)) 25)).drew) := by
  refine ⟨?_, ?_, (((Kept.refl _ w3).alloc _).alloc _).drew⟩
  · exact ((Kept.refl (fun _ => False) (w3.alloc (.cells #[.int .i64 O, .slice (some ⟨w3.heap.size + 1, 0, none⟩) W W] 28))).alloc _).drew.same (heap_alloc_new w3 _) (fun x => x)
  · have := (mine_made (hk.alloc (.cells #[.int .i64 O, .slice (some ⟨w3.heap.size + 1, 0, none⟩) W W] 28)) W (.int .u64 0) 25 hW).on ((Kept.refl _ _).drew)
    simpa using this

set_option maxHeartbeats 4000000 in
set_option maxRecDepth 100000 in
theorem histDownSide_any (o : Int) (l : List Nat) (b : Nat) (v : Value) (w : World) (hv : SlAt w v (uvals l)) (ho : -1000000000000 ≤ o ∧ o ≤ 1000000000000) (hl : l.length ≤ 1000000) (hb : b ≤ 60) (hs : l.sum < 18446744073709551616) :
    Calls Try.prog 43 #[.agg #[.int .i64 o, v], .int .i64 b] w (SideOut w fun o' l' => o' = downO o l b ∧ l' = downL o l b) := by
  obtain ⟨h0, h1⟩ := ho
  have hv0 := Lib.hid hv
  obtain ⟨ao, c, hval, _, _⟩ := hv.val
  rw [uvals_length] at hval
  subst hval
  have hW1 := dWidth_le o l.length b
  have HWD := Lib.hid fun w' (k : Kept (fun _ => False) w w') => histWidth_any o l b _ w' (hv.kept k (fun _ _ x => x)) ⟨h0, h1⟩ hl hb
  obtain ⟨W, hW⟩ : ∃ W, W = dWidth o l.length b := ⟨_, rfl⟩
  rw [← hW] at HWD hW1
  have HWE := Lib.hid hW
  have kb : Kept (fun _ => False) w ((w.alloc (.cells #[.int .i64 o, .slice ao l.length c] 28)).alloc (.cells #[.int .i64 0, .slice none 0 0] 28)) := ((Kept.refl _ w).alloc _).alloc _
  obtain ⟨w2, hw2⟩ : ∃ w2, w2 = (w.alloc (.cells #[.int .i64 o, .slice ao l.length c] 28)).alloc (.cells #[.int .i64 0, .slice none 0 0] 28) := ⟨_, rfl⟩
  have bx : SideBox w2 w.heap.size o (.slice ao l.length c) := by
    rw [hw2]
    exact ((Kept.refl (fun _ => False) (w.alloc (.cells #[.int .i64 o, .slice ao l.length c] 28))).alloc _).same (heap_alloc_new w _) (fun x => x)
  have rx : SideBox w2 (w.heap.size + 1) 0 (.slice none 0 0) := by
    rw [hw2]
    have := heap_alloc_new (w.alloc (.cells #[.int .i64 o, .slice ao l.length c] 28)) (.cells #[.int .i64 0, .slice none 0 0] 28)
    simpa [SideBox] using this
  rw [← hw2] at kb
  have HKB := Lib.hid kb
  have HB := Lib.hid bx
  have HR := Lib.hid rx
  have HWD2 := HWD.out _ kb
  rw [hw2] at HWD2
  have HWD2 := Lib.hid HWD2
  have HW2 := Lib.hid hw2
  clear hv hW HWD kb bx rx hw2
  by_cases hz : W = 0
  · have q : ((W : Int) == 0) = true := beqT (by omega)
    have hl0 : l.length = 0 := by
      have := HWE.out
      rw [hz] at this
      unfold dWidth at this
      split at this
      · assumption
      · omega
    have HF : Hid (downO o l b = 0 ∧ downL o l b = []) := Lib.hid ⟨if_pos hl0, List.eq_nil_of_length_eq_zero (by rw [downL_length, ← HWE.out, hz])⟩
    clear hz hl0
    go_enter Try.func43, Try.ntmps43
    go_wp2_with (go_at_call 69; refine HWD2.out.mono ?_; rintro e w3 ⟨rfl, hk⟩; rw [← HW2.out] at hk; have K3 := Lib.hid (HKB.out.trans hk); have rx3 := HR.out.same hk (fun x => x); have RX3 := Lib.hid rx3; obtain ⟨⟨r0, r1⟩, f0, f1⟩ := rx3.c; clear hk)
    refine side_end (o := 0) (v := .slice none 0 0) Try.results43 rfl rfl (RX3.out.set 0 (.slice none 0 0)) ?_
    exact ⟨0, [], _, ⟨HF.out.1.symm, HF.out.2.symm⟩, rfl, Mine.nil' _ (two_kept K3.out (by omega))⟩
  · have q : ((W : Int) == 0) = false := beqF (by omega)
    have hl0 : l.length ≠ 0 := by
      intro h
      have := HWE.out
      unfold dWidth at this
      rw [if_pos h] at this
      exact hz this
    have HL0 := Lib.hid hl0
    clear hl0
    go_enter Try.func43, Try.ntmps43
    go_wp2_with (go_at_call 69; refine HWD2.out.mono ?_; rintro e w3 ⟨rfl, hk⟩; rw [← HW2.out] at hk; have K3 := Lib.hid (HKB.out.trans hk); have rx3 := HR.out.same hk (fun x => x); have RX3 := Lib.hid rx3; have bx3 := HB.out.same hk (fun x => x); have BX3 := Lib.hid bx3; obtain ⟨⟨b0, b1⟩, _⟩ := bx3.c; clear hk rx3 bx3)
    go_upto_region 4 with fail
    obtain ⟨iU, hiU, hzU0, hzU1, hzU2⟩ := info_parts Try.infoU64
    have hmk := fun w' => run_make1 (P := Try.prog) Try.underlying26 hiU hzU0 hzU1 rfl (by omega) W (by omega) w'
    obtain ⟨O, hO⟩ : ∃ O, O = o / 2 ^ b := ⟨_, rfl⟩
    have s4 : o / 2 ^ b = O := hO.symm
    have mb : min b 64 = b := by omega
    have bb0 : (0 : Int) ≤ (b : Int) := by omega
    have HO := Lib.hid hO
    clear hO
    go_cut [6] (fun s6 wc => ∃ p g, s6 = .pointer (some ⟨p, 0, none⟩) ∧ SideBox wc p O (.slice (some ⟨g, 0, none⟩) W W) ∧ w3.heap.size ≤ p ∧ Mine w wc 25 (.slice (some ⟨g, 0, none⟩) W W) (uvals (dAcc o l b 0)) ∧ Kept (fun _ => False) w3 wc)
    case first =>
      have ba1 : ∀ o', (w3.alloc o').cell? ⟨w.heap.size, 0, none⟩ = some (.int .i64 o) := fun o' => ((Kept.refl (fun _ => False) w3).alloc o').cell b0 (fun x => x)
      have ba2 : ∀ o1 o2, ((w3.alloc o1).alloc o2).cell? ⟨w.heap.size, 0, none⟩ = some (.int .i64 o) := fun o1 o2 => (((Kept.refl (fun _ => False) w3).alloc o1).alloc o2).cell b0 (fun x => x)
      have f1 := Lib.hid (made1 K3.out W O (by unfold maxLen; omega))
      have f2 := Lib.hid (made2 K3.out W O (by unfold maxLen; omega))
      have hz0 := Lib.hid (show uvals (dAcc o l b 0) = List.replicate W (.int .u64 0) by rw [dAcc_zero, uvals_replicate, HWE.out])
      go_region
      all_goals
        go_wp2
        go_meet
        case rel =>
          first
            | exact ⟨_, _, rfl, f1.out.1, by omega, by rw [hz0.out]; exact f1.out.2.1, f1.out.2.2⟩
            | exact ⟨_, _, rfl, f2.out.1, by omega, by rw [hz0.out]; exact f2.out.2.1, f2.out.2.2⟩
            | (trace_state; sorry)
    case rest =>
      obtain ⟨p, g, rfl, hbx, hp3, hm, hk⟩ := hcut
      have HKC := Lib.hid hk
      have HP := Lib.hid hbx
      have HM := Lib.hid hm
      have hgp : g ≠ p := fun e => own_box hm.own hbx (by decide) (by rw [e]; rfl)
      have hgb : g ≠ w.heap.size := fun e => own_box hm.own (BX3.out.same hk (fun x => x)) (by decide) (by rw [e]; rfl)
      have hgr : g ≠ w.heap.size + 1 := fun e => own_box hm.own (RX3.out.same hk (fun x => x)) (by decide) (by rw [e]; rfl)
      have hBC := Lib.hid (BX3.out.same hk (fun x => x))
      have hRC := Lib.hid (RX3.out.same hk (fun x => x))
      have hgW : w.heap.size ≤ g := (ownsRow_lt hm.own rfl).2
      obtain ⟨⟨b0', b1'⟩, _⟩ := hBC.out.c
      clear b0 b1 hbx hm hk
      go_wp2
      go_loopg [7, 8, 25, 26, 27, 28, 29, 30, 31, 32, 33, 34, 35, 36, 37, 38, 39, 40, 41, 42, 43, 44, 45, 46] l.length (fun g' s7 s8 s25 s26 s27 s28 s29 s30 s31 s32 s33 s34 s35 s36 s37 s38 s39 s40 s41 s42 s43 s44 s45 s46 wr => ∃ m : Nat, m ≤ l.length ∧ g' = l.length - m ∧ s25 = .int .i64 m ∧ Mine w wr 25 (.slice (some ⟨g, 0, none⟩) W W) (uvals (dAcc o l b m)) ∧ Kept (fun k => k = g) wc wr)
      case atStart => exact ⟨0, Nat.zero_le _, rfl, rfl, HM.out, Kept.refl _ _⟩
      case round =>
        obtain ⟨m, hml, rfl, rfl, hm, hk⟩ := hrel
        have HMM := Lib.hid hm
        have HKK := Lib.hid hk
        have hb := hBC.out.same hk (fun e => hgb e.symm)
        have hpx := HP.out.same hk (fun e => hgp e.symm)
        obtain ⟨⟨b0, b1⟩, _⟩ := hb.c
        obtain ⟨⟨p0, p1⟩, _⟩ := hpx.c
        clear b0' b1' hm hk hb hpx
        by_cases hd : m < l.length
        · have hdi : (m : Int) < (l.length : Int) := by omega
          have m0 : (0 : Int) ≤ (m : Int) := by omega
          have HD := Lib.hid hd
          obtain ⟨g2, off2, rfl, c0⟩ := (hv0.out.kept HMM.out.kept (fun _ _ x => x)).elem (uvals_get hd)
          obtain ⟨y, hy⟩ : ∃ y, y = l.getD m 0 := ⟨_, rfl⟩
          rw [← hy] at c0
          have hix := dIdx_lt o l.length b m hd
          have hie := dIdx_eq o b m
          have hds := dSum_le_sum o l b (m + 1) (dIdx o b m) (by omega)
          have hacc := dAcc_succ o l b m
          have hgd := dAcc_get o l b m (dIdx o b m) hix
          simp only [dSum, if_true] at hds
          rw [← hy] at hds hacc
          obtain ⟨D, hD⟩ : ∃ D, D = dIdx o b m := ⟨_, rfl⟩
          rw [← hD] at hix hie hds hacc hgd
          obtain ⟨X, hX⟩ : ∃ X, X = dSum o l b m D := ⟨_, rfl⟩
          rw [← hX] at hds hacc hgd
          have hmW : wr.ownsRow w.heap.size 25 1 (.slice (some ⟨g, 0, none⟩) W W) W (uvals (dAcc o l b m)) := by have := HMM.out.own; rwa [uvals_length, dAcc_length, ← HWE.out] at this
          have hcd := hmW.cellAt D (by have := HWE.out; omega)
          rw [uvals_get (by rw [dAcc_length]; exact hix), hgd] at hcd
          have hfd : wr.frozen? ⟨g, D, none⟩ = false := by
            obtain ⟨cur, hc⟩ := ownsRow_block HMM.out.own (k := g) rfl
            simp [World.frozen?, hc]
          obtain ⟨A, hA⟩ : ∃ A, A = (o + (m : Int)) / 2 ^ b := ⟨_, rfl⟩
          rw [← hA, ← HO.out] at hie
          obtain ⟨Y, hY⟩ : ∃ Y, Y = X + y := ⟨_, rfl⟩
          have b1 := ediv_bound (o + (m : Int)) b 2000000000000 (by omega) (by omega) (by omega)
          have b2 := ediv_bound o b 2000000000000 (by omega) (by omega) (by omega)
          rw [← hA] at b1
          rw [← HO.out] at b2
          have t1 : IntKind.i64.wrap (o + (m : Int)) = o + (m : Int) := IntWalk.i64_in _ ⟨by omega, by omega⟩
          have t2 : (o + (m : Int)) / 2 ^ b = A := hA.symm
          have t3 : IntKind.i64.wrap (A - O) = (D : Int) := by rw [IntWalk.i64_in _ ⟨by omega, by omega⟩]; omega
          have t3' : IntKind.i64.wrap (D : Int) = (D : Int) := IntWalk.i64_in _ ⟨by omega, by omega⟩
          have t4 : IntKind.u64.wrap ((X : Int) + (y : Int)) = (Y : Int) := by rw [IntKind.wrap_u64]; omega
          have t5 : IntKind.u64.wrap (Y : Int) = (Y : Int) := by rw [IntKind.wrap_u64]; omega
          have D0 : (0 : Int) ≤ (D : Int) := by omega
          have DW : (D : Int) < (W : Int) := by have := HWE.out; omega
          have HACC := Lib.hid (show uvals (dAcc o l b (m + 1)) = (uvals (dAcc o l b m)).set D (.int .u64 (Y : Int)) by rw [uvals_set, hacc, hY])
          have HMW := Lib.hid hmW
          clear hix hie hds hacc hgd hD hX hA hY b1 b2 hy hd s4 hmW
          go_wp2
          go_still_tail 16, (by kernel_rfl)
          obtain ⟨w4, hw4⟩ : ∃ w4, w4 = wr.drew := ⟨_, rfl⟩
          have K4 : Kept (fun _ => False) wr w4 := by rw [hw4]; exact (Kept.refl _ wr).drew
          have hc4 := K4.cell hcd (fun x => x)
          have hf4 : w4.frozen? ⟨g, D, none⟩ = false := by rw [hw4]; exact hfd
          have HMW4 := Lib.hid (K4.owns HMW.out (fun _ _ x => x))
          have HK4 := Lib.hid K4
          change wpList _ _ _ _ _ wr.drew
          rw [← hw4]
          clear hw4 K4 hcd hfd
          go_wp2
          have HN : Mine w (w4.setCell ⟨g, D, none⟩ (.int .u64 (Y : Int))) 25 (.slice (some ⟨g, 0, none⟩) W W) (uvals (dAcc o l b (m + 1))) ∧ Kept (fun k => k = g) wc (w4.setCell ⟨g, D, none⟩ (.int .u64 (Y : Int))) := by
            refine ⟨?_, ?_⟩
            · rw [HACC.out]
              have := owns_set HMW4.out D (.int .u64 (Y : Int))
              refine Mine.ofFresh this ((HMM.out.kept.trans HK4.out).newer ((Kept.refl (fun k => k = g) w4).setCell (p := ⟨g, D, none⟩) (fun _ => rfl) _) (fun i e => by rw [e]; exact hgW))
            · exact (HKK.out.trans (HK4.out.mono (fun _ _ x => x.elim))).setCell (fun _ => rfl) _
          have HN := Lib.hid HN
          go_roundg (l.length - (m + 1))
          case measure => have := HD.out; omega
          case rel => exact ⟨m + 1, HD.out, rfl, by go_num, HN.out.1, HN.out.2⟩
        · obtain rfl : m = l.length := by omega
          have hrx := hRC.out.same HKK.out (fun e => hgr e.symm)
          have RX := Lib.hid hrx
          obtain ⟨⟨r0, r1⟩, f0, f1⟩ := hrx.c
          have HF := Lib.hid (show O = downO o l b by unfold downO; rw [if_neg HL0.out]; exact HO.out)
          clear hrx hd
          go_wp2
          refine side_end (o := O) (v := .slice (some ⟨g, 0, none⟩) W W) Try.results43 rfl rfl (RX.out.set _ _) ?_
          exact ⟨O, downL o l b, _, ⟨HF.out, rfl⟩, rfl, HMM.out.setBox RX.out (by decide) (by omega) _ _⟩
end Go.Proofs.Ytiiibhdohlpodaa

-- H8
namespace Go.Proofs.Ytiiibhdohlpodaa
open Go.RowKit

/-- A histogram, more coarsely; the error of that. -/
def downE (h : HistV) (by_ : Int) : Nat := if h.err ≠ 0 then h.err else if by_ < 0 ∨ h.sc + 10 < by_ then 1 else 0
def downH (h : HistV) (b : Nat) : HistV := ⟨h.sc - (b : Int), h.ze, downO h.po h.pl b, downL h.po h.pl b, downO h.no h.nl b, downL h.no h.nl b⟩
/-- What a call answers that makes a histogram, in new memory. -/
def HistOut (w : World) (R : HistV) (E : Nat) (e : Ending) (w' : World) : Prop :=
  ∃ pv nv, e = .returned (.tuple #[histV R pv nv, .int .i64 (E : Int)]) ∧ Mine w w' 25 pv (uvals R.pl) ∧ Mine w w' 25 nv (uvals R.nl) ∧ ∀ k, pv.ownBlock = some k → nv.ownBlock ≠ some k
def downR (h : HistV) (by_ : Int) : HistV := if downE h by_ = 0 then downH h by_.toNat else zeroH

theorem zeroOut {w w' : World} {E : Nat} (hk : Kept (fun _ => False) w w') : HistOut w zeroH E (.returned (.tuple #[histV zeroH (.slice none 0 0) (.slice none 0 0), .int .i64 (E : Int)])) w' :=
  ⟨_, _, rfl, Mine.nil' _ hk, Mine.nil' _ hk, fun k e => by cases e⟩

theorem side_range {o : Int} {l : List Nat} (h : sideE o l = 0) : (-1000000000000 ≤ o ∧ o ≤ 1000000000000) ∧ l.length ≤ 160 := by
  obtain ⟨h1, h2, h3⟩ := sideE_zero h
  by_cases hz : l.length = 0
  · have := h2 hz; omega
  · have := h3 hz; omega
theorem total_parts {h : HistV} (ht : h.total < 18446744073709551616) : h.pl.sum < 18446744073709551616 ∧ h.nl.sum < 18446744073709551616 := by
  unfold HistV.total sumN at ht; omega

end Go.Proofs.Ytiiibhdohlpodaa

-- H81
namespace Go.Proofs.Ytiiibhdohlpodaa
open Go.RowKit
attribute [local go_sem ↓] Go.wp_at_zero Go.wp_at_succ

set_option maxHeartbeats 4000000 in
set_option maxRecDepth 100000 in
theorem histDown_ok (sc : Int) (ze : Nat) (po : Int) (pl : List Nat) (no : Int) (nl : List Nat) (b : Nat) (ao bo : Option Addr) (c d : Nat) (w w0 : World) (k0 : Kept (fun _ => False) w w0)
    (hw0 : w0 = (w.alloc (.cells #[.int .i64 sc, .int .u64 (ze : Int), .int .i64 po, .slice ao pl.length c, .int .i64 no, .slice bo nl.length d] 30)).alloc (.cells #[.int .i64 0, .int .u64 0, .int .i64 0, .slice none 0 0, .int .i64 0, .slice none 0 0] 30))
    (bx : HistBox w0 w.heap.size ⟨sc, ze, po, pl, no, nl⟩ (.slice ao pl.length c) (.slice bo nl.length d)) (rx : HistBox w0 (w.heap.size + 1) zeroH (.slice none 0 0) (.slice none 0 0))
    (hE : Calls Try.prog 30 #[.agg #[.int .i64 sc, .int .u64 (ze : Int), .int .i64 po, .slice ao pl.length c, .int .i64 no, .slice bo nl.length d]] w0 fun e w' => e = .returned (.int .i64 0) ∧ Kept (fun _ => False) w0 w')
    (HD1 : Hid (∀ w', Kept (fun _ => False) w0 w' → Calls Try.prog 43 #[.agg #[.int .i64 po, .slice ao pl.length c], .int .i64 b] w' (SideOut w' fun o' l' => o' = downO po pl b ∧ l' = downL po pl b)))
    (HD2 : Hid (∀ w', Kept (fun _ => False) w0 w' → Calls Try.prog 43 #[.agg #[.int .i64 no, .slice bo nl.length d], .int .i64 b] w' (SideOut w' fun o' l' => o' = downO no nl b ∧ l' = downL no nl b)))
    (hb : (b : Int) ≤ sc + 10) (hsc : -10 ≤ sc ∧ sc ≤ 20) (R : HistV) (hR : R = ⟨sc - (b : Int), ze, downO po pl b, downL po pl b, downO no nl b, downL no nl b⟩) :
    Calls Try.prog 16 #[.agg #[.int .i64 sc, .int .u64 (ze : Int), .int .i64 po, .slice ao pl.length c, .int .i64 no, .slice bo nl.length d], .int .i64 b] w (HistOut w R 0) := by
  have HK0 := Lib.hid k0
  have HBX := Lib.hid bx
  have HRX := Lib.hid rx
  have HW0 := Lib.hid hw0
  rw [hw0] at hE
  have HC := Lib.hid hE
  have q : ((0 : Int) != 0) = false := rfl
  have b1 : ¬ (b : Int) < 0 := by omega
  have sc1 : IntKind.i64.wrap (sc - -10) = sc + 10 := by rw [IntWalk.i64_in _ ⟨by omega, by omega⟩]; omega
  have sc2 : sc - -10 = sc + 10 := by omega
  have sc3 : IntKind.i64.wrap (sc + 10) = sc + 10 := IntWalk.i64_in _ ⟨by omega, by omega⟩
  have hb2 : ¬ sc + 10 < (b : Int) := by omega
  have s1 : IntKind.i64.wrap (sc - (b : Int)) = sc - (b : Int) := IntWalk.i64_in _ ⟨by omega, by omega⟩
  have HR := Lib.hid hR
  clear k0 bx rx hw0 hE hR
  go_enter Try.func16, Try.ntmps16
  go_wp2_with (go_at_call 30; refine HC.out.mono ?_; rintro e w1 ⟨rfl, k1⟩; rw [← HW0.out] at k1; have K1 := Lib.hid k1; obtain ⟨c0, c1, c2, c3, c4, c5⟩ := (HBX.out.same k1 (fun x => x)).c; clear k1)
  have kd : Kept (fun _ => False) w0 w1.drew := K1.out.drew
  have HKD := Lib.hid kd
  have HC1 := Lib.hid (HBX.out.same kd (fun x => x)).c

  go_region_held3 (fun w' => w'.cell? ⟨w.heap.size, 0, none⟩ = some (.int .i64 sc) ∧ w'.cell? ⟨w.heap.size, 1, none⟩ = some (.int .u64 (ze : Int)) ∧ w'.cell? ⟨w.heap.size, 2, none⟩ = some (.int .i64 po) ∧ w'.cell? ⟨w.heap.size, 3, none⟩ = some (.slice ao pl.length c) ∧ w'.cell? ⟨w.heap.size, 4, none⟩ = some (.int .i64 no) ∧ w'.cell? ⟨w.heap.size, 5, none⟩ = some (.slice bo nl.length d)) (first | (with_reducible exact HC1.out) | (with_reducible exact HB3.out) | (exact (HistBox.same HB4.out (set6_kept w4 (w.heap.size + 1) (.int .i64 (sc - (b : Int))) (.int .u64 (ze : Int)) (.int .i64 o3) (.slice a3 n3 q3) (.int .i64 o4) (.slice a4 n4 q4)) (by omega)).c))
    (first
      | (have _tok := HK3.out; go_at_call 43; refine (HD2.out _ HK3.out).mono ?_; rintro e w4 ⟨o4, l4, v4, hh4, rfl, hm4⟩; have HH4 := Lib.hid hh4; clear hh4; obtain ⟨a4, q4, rfl⟩ := hm4.slice; obtain ⟨n4, hn4⟩ : ∃ n4, n4 = (uvals l4).length := ⟨_, rfl⟩; rw [← hn4] at hm4 ⊢; have HN4 := Lib.hid hn4; clear hn4; have HM4 := Lib.hid hm4; have kc4 := HK3.out.trans hm4.kept; have HB4 := Lib.hid (HBX.out.same kc4 (fun x => x)); have HB3 := Lib.hid HB4.out.c; have rx4 := HRX.out.same kc4 (fun x => x); have RX4 := Lib.hid rx4; obtain ⟨r0, r1, r2, r3, r4, r5⟩ := rx4.c; obtain ⟨f0, f1, f2, f3, f4, f5⟩ := rx4.f; clear hm4 rx4 kc4)
      | (go_at_call 43; refine (HD1.out _ HKD.out).mono ?_; rintro e w3 ⟨o3, l3, v3, hh3, rfl, hm3⟩; have HH3 := Lib.hid hh3; clear hh3; obtain ⟨a3, q3, rfl⟩ := hm3.slice; obtain ⟨n3, hn3⟩ : ∃ n3, n3 = (uvals l3).length := ⟨_, rfl⟩; rw [← hn3] at hm3 ⊢; have HN3 := Lib.hid hn3; clear hn3; have HM3 := Lib.hid hm3; have HK3 := Lib.hid (HKD.out.trans hm3.kept); have HB3 := Lib.hid (HBX.out.same HK3.out (fun x => x)).c; clear hm3)
      | fail)
  go_wp2
  obtain ⟨rfl, rfl⟩ := HH3.out
  obtain ⟨rfl, rfl⟩ := HH4.out
  obtain rfl := HN3.out
  obtain rfl := HN4.out
  have M3 := Lib.hid (((HM3.out.down (HK0.out.trans HKD.out)).on HM4.out.kept).set6 RX4.out (by omega) (.int .i64 (sc - (b : Int))) (.int .u64 (ze : Int)) (.int .i64 (downO po pl b)) (.slice a3 (uvals (downL po pl b)).length q3) (.int .i64 (downO no nl b)) (.slice a4 (uvals (downL no nl b)).length q4))
  have M4 := Lib.hid ((HM4.out.down (HK0.out.trans HK3.out)).set6 RX4.out (by omega) (.int .i64 (sc - (b : Int))) (.int .u64 (ze : Int)) (.int .i64 (downO po pl b)) (.slice a3 (uvals (downL po pl b)).length q3) (.int .i64 (downO no nl b)) (.slice a4 (uvals (downL no nl b)).length q4))
  have hdis : ∀ k, (Value.slice a3 (uvals (downL po pl b)).length q3).ownBlock = some k → (Value.slice a4 (uvals (downL no nl b)).length q4).ownBlock ≠ some k := fun k e1 e2 => by
    have h1 := (ownsRow_lt HM3.out.own e1).1
    have h2 := (ownsRow_lt HM4.out.own e2).2
    omega
  have HDIS := Lib.hid hdis
  clear hdis
  refine hist_end (h := R) (pv := .slice a3 (uvals (downL po pl b)).length q3) (nv := .slice a4 (uvals (downL no nl b)).length q4) Try.results16 rfl rfl rfl (by rw [HR.out]; exact RX4.out.set ⟨sc - (b : Int), ze, downO po pl b, downL po pl b, downO no nl b, downL no nl b⟩ _ _) ?_
  refine ⟨_, _, rfl, ?_, ?_, HDIS.out⟩
  · rw [HR.out]; exact M3.out
  · rw [HR.out]; exact M4.out
end Go.Proofs.Ytiiibhdohlpodaa

-- H82
namespace Go.Proofs.Ytiiibhdohlpodaa
open Go.RowKit
attribute [local go_sem ↓] Go.wp_at_zero Go.wp_at_succ

set_option maxHeartbeats 4000000 in
set_option maxRecDepth 100000 in
theorem histDown_any (h : HistV) (by_ : Int) (pv nv : Value) (w : World) (ha : HistAt w h pv nv) (hok : h.ok) (hp : h.pl.length ≤ 1000000) (hn : h.nl.length ≤ 1000000) (hby : I64 by_) :
    Calls Try.prog 16 #[histV h pv nv, .int .i64 by_] w (HistOut w (downR h by_) (downE h by_)) := by
  obtain ⟨⟨ao, c, rfl⟩, bo, d, rfl⟩ := ha.sl
  obtain ⟨w0, hw0⟩ : ∃ w0, w0 = (w.alloc (.cells #[.int .i64 h.sc, .int .u64 (h.ze : Int), .int .i64 h.po, .slice ao h.pl.length c, .int .i64 h.no, .slice bo h.nl.length d] 30)).alloc (.cells #[.int .i64 0, .int .u64 0, .int .i64 0, .slice none 0 0, .int .i64 0, .slice none 0 0] 30) := ⟨_, rfl⟩
  have k0 : Kept (fun _ => False) w w0 := by rw [hw0]; exact ((Kept.refl _ w).alloc _).alloc _
  have bx : HistBox w0 w.heap.size h (.slice ao h.pl.length c) (.slice bo h.nl.length d) := by
    rw [hw0]; exact ((Kept.refl (fun _ => False) _).alloc _).same (heap_alloc_new w _) (fun x => x)
  have rx : HistBox w0 (w.heap.size + 1) zeroH (.slice none 0 0) (.slice none 0 0) := by
    rw [hw0]
    have := heap_alloc_new (w.alloc (.cells #[.int .i64 h.sc, .int .u64 (h.ze : Int), .int .i64 h.po, .slice ao h.pl.length c, .int .i64 h.no, .slice bo h.nl.length d] 30)) (.cells #[.int .i64 0, .int .u64 0, .int .i64 0, .slice none 0 0, .int .i64 0, .slice none 0 0] 30)
    have e : (w.alloc (.cells #[.int .i64 h.sc, .int .u64 (h.ze : Int), .int .i64 h.po, .slice ao h.pl.length c, .int .i64 h.no, .slice bo h.nl.length d] 30)).heap.size = w.heap.size + 1 := by simp
    rw [e] at this
    exact this
  have HC := Lib.hid (histCheck_any h _ _ w0 (ha.on k0) hok hp hn)
  have HA := Lib.hid fun w' (k : Kept (fun _ => False) w0 w') => ha.on (k0.trans k)
  have HK0 := Lib.hid k0
  have HBX := Lib.hid bx
  have HRX := Lib.hid rx
  have HW0 := Lib.hid hw0
  have hdE : downE h by_ = if h.err ≠ 0 then h.err else if by_ < 0 ∨ h.sc + 10 < by_ then 1 else 0 := rfl
  have hLT := err_light (h := h)
  obtain ⟨E, hE⟩ : ∃ E, E = h.err := ⟨_, rfl⟩
  rw [← hE] at HC hdE hLT
  rw [hw0] at HC
  have HC := Lib.hid HC.out
  clear ha k0 bx rx hw0
  by_cases hE0 : E = 0
  · have q : ((E : Int) != 0) = false := bneF (by omega)
    obtain ⟨⟨l1, l2⟩, l3, l4, l5⟩ := hLT hE0
    rw [if_neg (by omega)] at hdE
    have hp2 := side_range l3
    have hn2 := side_range l4
    obtain ⟨t1, t2⟩ := total_parts l5
    have sc1 : IntKind.i64.wrap (h.sc - -10) = h.sc + 10 := by rw [IntWalk.i64_in _ ⟨by omega, by omega⟩]; omega
    have sc2 : h.sc - -10 = h.sc + 10 := by omega
    have sc3 : IntKind.i64.wrap (h.sc + 10) = h.sc + 10 := IntWalk.i64_in _ ⟨by omega, by omega⟩
    have hcase : by_ < 0 ∨ (¬ by_ < 0 ∧ h.sc + 10 < by_) ∨ (¬ by_ < 0 ∧ ¬ h.sc + 10 < by_) := by omega
    rcases hcase with b1 | ⟨b1, b2⟩ | ⟨b1, b2⟩
    · have hd : downE h by_ = 1 := by rw [hdE, if_pos (.inl b1)]
      have hr : downR h by_ = zeroH := by unfold downR; rw [hd, if_neg (by omega)]
      rw [hd, hr]
      clear hE hd hr hdE hLT hE0
      obtain ⟨sc, ze, po, pl, no, nl⟩ := h
      unfold histV at HC ⊢
      go_enter Try.func16, Try.ntmps16
      go_wp2_with (go_at_call 30; refine HC.out.mono ?_; rintro e w1 ⟨rfl, k1⟩; rw [← HW0.out] at k1; have K1 := Lib.hid (HK0.out.trans k1); have rx1 := HRX.out.same k1 (fun x => x); have RX1 := Lib.hid rx1; obtain ⟨r0, r1, r2, r3, r4, r5⟩ := rx1.c; obtain ⟨f0, f1, f2, f3, f4, f5⟩ := rx1.f; clear k1 rx1)
      refine hist_end (h := zeroH) Try.results16 rfl rfl rfl (RX1.out.set zeroH (.slice none 0 0) (.slice none 0 0)) ?_
      exact zeroOut (E := 1) (K1.out.newer (set6_kept _ _ _ _ _ _ _ _) (fun i e => by omega))
    · have hd : downE h by_ = 1 := by rw [hdE, if_pos (.inr b2)]
      have hr : downR h by_ = zeroH := by unfold downR; rw [hd, if_neg (by omega)]
      rw [hd, hr]
      clear hE hd hr hdE hLT hE0
      obtain ⟨sc, ze, po, pl, no, nl⟩ := h
      unfold histV at HC ⊢
      simp only at b2 sc1 sc2 sc3
      go_enter Try.func16, Try.ntmps16
      go_wp2_with (go_at_call 30; refine HC.out.mono ?_; rintro e w1 ⟨rfl, k1⟩; rw [← HW0.out] at k1; have K1 := Lib.hid (HK0.out.trans k1); obtain ⟨c0, _⟩ := (HBX.out.same k1 (fun x => x)).c; have rx1 := HRX.out.same k1 (fun x => x); have RX1 := Lib.hid rx1; obtain ⟨r0, r1, r2, r3, r4, r5⟩ := rx1.c; obtain ⟨f0, f1, f2, f3, f4, f5⟩ := rx1.f; clear k1 rx1)
      refine hist_end (h := zeroH) Try.results16 rfl rfl rfl (RX1.out.set zeroH (.slice none 0 0) (.slice none 0 0)) ?_
      exact zeroOut (E := 1) (K1.out.newer (set6_kept _ _ _ _ _ _ _ _) (fun i e => by omega))
    · have hd : downE h by_ = 0 := by rw [hdE, if_neg (by omega)]
      obtain ⟨b, rfl⟩ : ∃ b : Nat, by_ = b := ⟨by_.toNat, by omega⟩
      have hr : downR h b = downH h b := by unfold downR; rw [hd, if_pos rfl, Int.toNat_natCast]
      rw [hd, hr]
      have HD1 := Lib.hid fun w' (k : Kept (fun _ => False) w0 w') => histDownSide_any h.po h.pl b _ w' (HA.out _ k).p hp2.1 hp (by omega) t1
      have HD2 := Lib.hid fun w' (k : Kept (fun _ => False) w0 w') => histDownSide_any h.no h.nl b _ w' (HA.out _ k).n hn2.1 hn (by omega) t2
      have hC := HC.out
      rw [← HW0.out, hE0] at hC
      obtain ⟨sc, ze, po, pl, no, nl⟩ := h
      exact histDown_ok sc ze po pl no nl b ao bo c d w w0 HK0.out HW0.out HBX.out HRX.out hC HD1 HD2 (by simp only at b2; omega) ⟨by simp only at l1; omega, by simp only at l2; omega⟩ _ rfl
  · have q : ((E : Int) != 0) = true := bneT (by omega)
    have hd : downE h by_ = E := by rw [hdE, if_pos hE0]
    have hr : downR h by_ = zeroH := by unfold downR; rw [hd, if_neg hE0]
    rw [hd, hr]
    clear hE hd hr hdE hLT hE0
    obtain ⟨sc, ze, po, pl, no, nl⟩ := h
    unfold histV at HC ⊢
    go_enter Try.func16, Try.ntmps16
    go_wp2_with (go_at_call 30; refine HC.out.mono ?_; rintro e w1 ⟨rfl, k1⟩; rw [← HW0.out] at k1; have K1 := Lib.hid (HK0.out.trans k1); have rx1 := HRX.out.same k1 (fun x => x); have RX1 := Lib.hid rx1; obtain ⟨r0, r1, r2, r3, r4, r5⟩ := rx1.c; obtain ⟨f0, f1, f2, f3, f4, f5⟩ := rx1.f; clear k1 rx1)
    refine hist_end (h := zeroH) Try.results16 rfl rfl rfl (RX1.out.set zeroH (.slice none 0 0) (.slice none 0 0)) ?_
    exact zeroOut (K1.out.newer (set6_kept _ _ _ _ _ _ _ _) (fun i e => by omega))
end Go.Proofs.Ytiiibhdohlpodaa

-- H9
namespace Go.Proofs.Ytiiibhdohlpodaa
open Go.RowKit
attribute [local go_sem ↓] Go.wp_at_zero Go.wp_at_succ

/-- Whether both sides have at most so many buckets. -/
def fits (h : HistV) (most : Int) (b : Nat) : Prop := ((dWidth h.po h.pl.length b : Nat) : Int) ≤ most ∧ ((dWidth h.no h.nl.length b : Nat) : Int) ≤ most
/-- A histogram as coarse as it must be. -/
def FitOf (h : HistV) (most : Int) (R : HistV) (E : Nat) : Prop :=
  (h.err ≠ 0 ∧ E = h.err ∧ R = zeroH) ∨
  (h.err = 0 ∧ ∃ b : Nat, (b : Int) ≤ h.sc + 10 ∧ fits h most b ∧ (∀ a, a < b → ¬ fits h most a) ∧ R = downH h b ∧ E = 0) ∨
  (h.err = 0 ∧ (∀ a : Nat, (a : Int) ≤ h.sc + 10 → ¬ fits h most a) ∧ R = zeroH ∧ E = 4)
theorem FitOf.uniq {h : HistV} {most : Int} {R1 R2 : HistV} {E1 E2 : Nat} (h1 : FitOf h most R1 E1) (h2 : FitOf h most R2 E2) : R1 = R2 ∧ E1 = E2 := by
  rcases h1 with ⟨a, rfl, rfl⟩ | ⟨a, b, hb, f, l, rfl, rfl⟩ | ⟨a, n, rfl, rfl⟩
  · rcases h2 with ⟨c, rfl, rfl⟩ | ⟨c, _⟩ | ⟨c, _⟩
    · exact ⟨rfl, rfl⟩
    · exact absurd c a
    · exact absurd c a
  · rcases h2 with ⟨c, _⟩ | ⟨c, b', hb', f', l', rfl, rfl⟩ | ⟨c, n', _⟩
    · exact absurd a c
    · rcases Nat.lt_trichotomy b b' with x | x | x
      · exact absurd f (l' b x)
      · subst x; exact ⟨rfl, rfl⟩
      · exact absurd f' (l b' x)
    · exact absurd f (n' b hb)
  · rcases h2 with ⟨c, _⟩ | ⟨c, b', hb', f', _⟩ | ⟨c, n', rfl, rfl⟩
    · exact absurd a c
    · exact absurd f' (n b' hb')
    · exact ⟨rfl, rfl⟩

set_option maxHeartbeats 4000000 in
set_option maxRecDepth 100000 in
theorem histFit_ok (h : HistV) (most : Int) (ao bo : Option Addr) (c d : Nat) (w w0 : World) (k0 : Kept (fun _ => False) w w0)
    (hw0 : w0 = (w.alloc (.cells #[.int .i64 h.sc, .int .u64 (h.ze : Int), .int .i64 h.po, .slice ao h.pl.length c, .int .i64 h.no, .slice bo h.nl.length d] 30)).alloc (.cells #[.int .i64 0, .int .u64 0, .int .i64 0, .slice none 0 0, .int .i64 0, .slice none 0 0] 30))
    (bx : HistBox w0 w.heap.size h (.slice ao h.pl.length c) (.slice bo h.nl.length d)) (rx : HistBox w0 (w.heap.size + 1) zeroH (.slice none 0 0) (.slice none 0 0))
    (hE : Calls Try.prog 30 #[.agg #[.int .i64 h.sc, .int .u64 (h.ze : Int), .int .i64 h.po, .slice ao h.pl.length c, .int .i64 h.no, .slice bo h.nl.length d]] w0 fun e w' => e = .returned (.int .i64 0) ∧ Kept (fun _ => False) w0 w')
    (HW1 : Hid (∀ w' (b : Nat), Kept (fun _ => False) w0 w' → b ≤ 60 → Calls Try.prog 69 #[.agg #[.int .i64 h.po, .slice ao h.pl.length c], .int .i64 b] w' fun e w' => e = .returned (.int .i64 ((dWidth h.po h.pl.length b : Nat) : Int)) ∧ Kept (fun _ => False) w0 w'))
    (HW2 : Hid (∀ w' (b : Nat), Kept (fun _ => False) w0 w' → b ≤ 60 → Calls Try.prog 69 #[.agg #[.int .i64 h.no, .slice bo h.nl.length d], .int .i64 b] w' fun e w' => e = .returned (.int .i64 ((dWidth h.no h.nl.length b : Nat) : Int)) ∧ Kept (fun _ => False) w0 w'))
    (HDN : Hid (∀ w' (b : Nat), Kept (fun _ => False) w0 w' → (b : Int) ≤ h.sc + 10 → Calls Try.prog 16 #[.agg #[.int .i64 h.sc, .int .u64 (h.ze : Int), .int .i64 h.po, .slice ao h.pl.length c, .int .i64 h.no, .slice bo h.nl.length d], .int .i64 b] w' (HistOut w' (downH h b) 0)))
    (hsc : -10 ≤ h.sc ∧ h.sc ≤ 20) (he : h.err = 0) :
    Calls Try.prog 92 #[.agg #[.int .i64 h.sc, .int .u64 (h.ze : Int), .int .i64 h.po, .slice ao h.pl.length c, .int .i64 h.no, .slice bo h.nl.length d], .int .i64 most] w (fun e w' => ∃ R E, FitOf h most R E ∧ HistOut w R E e w') := by
  have HK0 := Lib.hid k0
  have HBX := Lib.hid bx
  have HRX := Lib.hid rx
  have HW0 := Lib.hid hw0
  rw [hw0] at hE
  have HC := Lib.hid hE
  have HE := Lib.hid he
  have q : ((0 : Int) != 0) = false := rfl
  obtain ⟨N, hN⟩ : ∃ N : Nat, (N : Int) = h.sc + 11 := ⟨(h.sc + 11).toNat, by omega⟩
  have sc1 : IntKind.i64.wrap (h.sc - -10) = h.sc + 10 := by rw [IntWalk.i64_in _ ⟨by omega, by omega⟩]; omega
  have sc2 : h.sc - -10 = h.sc + 10 := by omega
  have sc3 : IntKind.i64.wrap (h.sc + 10 + 1) = (N : Int) := by rw [IntWalk.i64_in _ ⟨by omega, by omega⟩]; omega
  have sc4 : h.sc + 10 + 1 = (N : Int) := by omega
  have sc5 : IntKind.i64.wrap (h.sc + 10) = h.sc + 10 := IntWalk.i64_in _ ⟨by omega, by omega⟩
  have sc6 : IntKind.i64.wrap (N : Int) = (N : Int) := IntWalk.i64_in _ ⟨by omega, by omega⟩
  have HN := Lib.hid hN
  have HSC := Lib.hid hsc
  have hN60 : N ≤ 60 := by omega
  clear k0 bx rx hw0 hE he hN
  go_enter Try.func92, Try.ntmps92
  go_wp2_with (go_at_call 30; refine HC.out.mono ?_; rintro e w1 ⟨rfl, k1⟩; rw [← HW0.out] at k1; have K1 := Lib.hid k1; obtain ⟨c0, c1, c2, c3, c4, c5⟩ := (HBX.out.same k1 (fun x => x)).c; clear k1)
  clear c0 c1 c2 c3 c4 c5
  go_loopg [7, 18, 19, 20, 21, 22, 23, 24, 25, 26, 27, 28, 29, 30, 31, 32, 33, 34, 35, 36, 37, 38, 39, 40] N (fun g s7 s18 s19 s20 s21 s22 s23 s24 s25 s26 s27 s28 s29 s30 s31 s32 s33 s34 s35 s36 s37 s38 s39 s40 wr => ∃ b : Nat, b ≤ N ∧ g = N - b ∧ s18 = .int .i64 b ∧ (∀ a, a < b → ¬ fits h most a) ∧ Kept (fun _ => False) w0 wr)
  case atStart => exact ⟨0, Nat.zero_le _, rfl, rfl, fun a ha => by omega, K1.out⟩
  case round =>
    obtain ⟨b, hbN, rfl, rfl, hno, hk⟩ := hrel
    have HNO := Lib.hid hno
    have HK := Lib.hid hk
    clear hno
    by_cases hd : b < N
    · have hdi : (b : Int) < (N : Int) := by omega
      have HD := Lib.hid hd
      obtain ⟨c0, c1, c2, c3, c4, c5⟩ := (HBX.out.same hk (fun x => x)).c
      have hw1 := fun w' k => HW1.out w' b k (by omega)
      have hw2 := fun w' k => HW2.out w' b k (by omega)
      have hdn := fun w' k => HDN.out w' b k (by have := HN.out; omega)
      obtain ⟨A, hA⟩ : ∃ A, A = dWidth h.po h.pl.length b := ⟨_, rfl⟩
      obtain ⟨B, hB⟩ : ∃ B, B = dWidth h.no h.nl.length b := ⟨_, rfl⟩
      rw [← hA] at hw1
      rw [← hB] at hw2
      have HX1 := Lib.hid hw1
      have HX2 := Lib.hid hw2
      have HDX := Lib.hid hdn
      have HF := Lib.hid (show fits h most b ↔ ((A : Int) ≤ most ∧ (B : Int) ≤ most) by unfold fits; rw [hA, hB])
      clear hw1 hw2 hdn hA hB hk hd
      by_cases hf1 : (A : Int) ≤ most
      · by_cases hf2 : (B : Int) ≤ most
        · have HF2 := Lib.hid (HF.out.mpr ⟨hf1, hf2⟩)
          obtain ⟨R, hR⟩ : ∃ R, R = downH h b := ⟨_, rfl⟩
          rw [← hR] at HDX
          have HR := Lib.hid hR
          clear hR
          go_wp2_with (first
            | (have _tok := HK3.out; go_at_call 69; refine (HX2.out _ HK3.out).mono ?_; rintro e w4 ⟨rfl, k4⟩; have HK4 := Lib.hid k4; obtain ⟨c0, c1, c2, c3, c4, c5⟩ := (HBX.out.same k4 (fun x => x)).c; clear k4)
            | (go_at_call 69; refine (HX1.out _ HK.out).mono ?_; rintro e w3 ⟨rfl, k3⟩; have HK3 := Lib.hid k3; obtain ⟨c0, c1, c2, c3, c4, c5⟩ := (HBX.out.same k3 (fun x => x)).c; clear k3)
            | (go_at_call 16; refine (HDX.out _ HK4.out).mono ?_; rintro e w5 ⟨pv, nv, rfl, m1, m2, dis⟩; unfold histV; obtain ⟨a5, q5, rfl⟩ := m1.slice; obtain ⟨a6, q6, rfl⟩ := m2.slice; have HM1 := Lib.hid m1; have HM2 := Lib.hid m2; have HDIS := Lib.hid dis; have rx5 := HRX.out.same (HK4.out.trans m1.kept) (fun x => x); have RX5 := Lib.hid rx5; obtain ⟨r0, r1, r2, r3, r4, r5⟩ := rx5.c; obtain ⟨f0, f1, f2, f3, f4, f5⟩ := rx5.f; clear m1 m2 dis rx5)
            | fail)
          refine hist_end (h := R) (pv := .slice a5 (uvals R.pl).length q5) (nv := .slice a6 (uvals R.nl).length q6) Try.results92 rfl rfl rfl (RX5.out.set R _ _) ?_
          have kk : Kept (fun _ => False) w w4 := HK0.out.trans HK4.out
          refine ⟨R, 0, .inr (.inl ⟨HE.out, b, by have := HN.out; have := HD.out; omega, HF2.out, HNO.out, HR.out, rfl⟩), _, _, rfl, ?_, ?_, HDIS.out⟩
          · exact (HM1.out.down kk).set6 RX5.out (by omega) _ _ _ _ _ _
          · exact (HM2.out.down kk).set6 RX5.out (by omega) _ _ _ _ _ _
        · have HF2 := Lib.hid (show ¬ fits h most b from fun x => hf2 (HF.out.mp x).2)
          go_wp2_with (first
            | (have _tok := HK3.out; go_at_call 69; refine (HX2.out _ HK3.out).mono ?_; rintro e w4 ⟨rfl, k4⟩; have HK4 := Lib.hid k4; clear k4)
            | (go_at_call 69; refine (HX1.out _ HK.out).mono ?_; rintro e w3 ⟨rfl, k3⟩; have HK3 := Lib.hid k3; obtain ⟨c0, c1, c2, c3, c4, c5⟩ := (HBX.out.same k3 (fun x => x)).c; clear k3)
            | fail)
          go_roundg (N - (b + 1))
          case measure => have := HD.out; omega
          case rel => exact ⟨b + 1, HD.out, rfl, by go_num, fun a ha => by rcases Nat.lt_succ_iff_lt_or_eq.mp ha with x | x; exact HNO.out a x; rw [x]; exact HF2.out, HK4.out⟩
      · have HF2 := Lib.hid (show ¬ fits h most b from fun x => hf1 (HF.out.mp x).1)
        go_wp2_with (first
          | (go_at_call 69; refine (HX1.out _ HK.out).mono ?_; rintro e w3 ⟨rfl, k3⟩; have HK3 := Lib.hid k3; clear k3)
          | fail)
        go_roundg (N - (b + 1))
        case measure => have := HD.out; omega
        case rel => exact ⟨b + 1, HD.out, rfl, by go_num, fun a ha => by rcases Nat.lt_succ_iff_lt_or_eq.mp ha with x | x; exact HNO.out a x; rw [x]; exact HF2.out, HK3.out⟩
    · obtain rfl : b = N := by omega
      have rx5 := HRX.out.same hk (fun x => x)
      have RX5 := Lib.hid rx5
      obtain ⟨r0, r1, r2, r3, r4, r5⟩ := rx5.c
      obtain ⟨f0, f1, f2, f3, f4, f5⟩ := rx5.f
      clear hd hk rx5
      go_wp2
      refine hist_end (h := zeroH) Try.results92 rfl rfl rfl (RX5.out.set zeroH (.slice none 0 0) (.slice none 0 0)) ?_
      exact ⟨zeroH, 4, .inr (.inr ⟨HE.out, fun a ha => HNO.out a (by have := HN.out; omega), rfl, rfl⟩), zeroOut (E := 4) ((HK0.out.trans HK.out).newer (set6_kept _ _ _ _ _ _ _ _) (fun i e => by omega))⟩
end Go.Proofs.Ytiiibhdohlpodaa

-- H10
namespace Go.Proofs.Ytiiibhdohlpodaa
open Go.RowKit
attribute [local go_sem ↓] Go.wp_at_zero Go.wp_at_succ

set_option maxHeartbeats 4000000 in
set_option maxRecDepth 100000 in
theorem histFit_any (h : HistV) (most : Int) (pv nv : Value) (w : World) (ha : HistAt w h pv nv) (hok : h.ok) (hp : h.pl.length ≤ 1000000) (hn : h.nl.length ≤ 1000000) :
    Calls Try.prog 92 #[histV h pv nv, .int .i64 most] w (fun e w' => ∃ R E, FitOf h most R E ∧ HistOut w R E e w') := by
  obtain ⟨⟨ao, c, rfl⟩, bo, d, rfl⟩ := ha.sl
  obtain ⟨w0, hw0⟩ : ∃ w0, w0 = (w.alloc (.cells #[.int .i64 h.sc, .int .u64 (h.ze : Int), .int .i64 h.po, .slice ao h.pl.length c, .int .i64 h.no, .slice bo h.nl.length d] 30)).alloc (.cells #[.int .i64 0, .int .u64 0, .int .i64 0, .slice none 0 0, .int .i64 0, .slice none 0 0] 30) := ⟨_, rfl⟩
  have k0 : Kept (fun _ => False) w w0 := by rw [hw0]; exact ((Kept.refl _ w).alloc _).alloc _
  have bx : HistBox w0 w.heap.size h (.slice ao h.pl.length c) (.slice bo h.nl.length d) := by
    rw [hw0]; exact ((Kept.refl (fun _ => False) _).alloc _).same (heap_alloc_new w _) (fun x => x)
  have rx : HistBox w0 (w.heap.size + 1) zeroH (.slice none 0 0) (.slice none 0 0) := by
    rw [hw0]
    have := heap_alloc_new (w.alloc (.cells #[.int .i64 h.sc, .int .u64 (h.ze : Int), .int .i64 h.po, .slice ao h.pl.length c, .int .i64 h.no, .slice bo h.nl.length d] 30)) (.cells #[.int .i64 0, .int .u64 0, .int .i64 0, .slice none 0 0, .int .i64 0, .slice none 0 0] 30)
    have e : (w.alloc (.cells #[.int .i64 h.sc, .int .u64 (h.ze : Int), .int .i64 h.po, .slice ao h.pl.length c, .int .i64 h.no, .slice bo h.nl.length d] 30)).heap.size = w.heap.size + 1 := by simp
    rw [e] at this
    exact this
  have HC := Lib.hid (histCheck_any h _ _ w0 (ha.on k0) hok hp hn)
  have HA := Lib.hid fun w' (k : Kept (fun _ => False) w0 w') => ha.on (k0.trans k)
  have HK0 := Lib.hid k0
  have HBX := Lib.hid bx
  have HRX := Lib.hid rx
  have HW0 := Lib.hid hw0
  obtain ⟨E, hE⟩ : ∃ E, E = h.err := ⟨_, rfl⟩
  by_cases hE0 : h.err = 0
  · obtain ⟨hsc, l3, l4, l5⟩ := err_light hE0
    have hp2 := side_range l3
    have hn2 := side_range l4
    have hC := HC.out
    rw [hE0] at hC
    refine histFit_ok h most ao bo c d w w0 HK0.out HW0.out HBX.out HRX.out hC
      (Lib.hid fun w' b k hb => (histWidth_any h.po h.pl b _ w' (HA.out _ k).p hp2.1 hp hb).mono fun e w2 ⟨h1, h2⟩ => ⟨h1, k.trans h2⟩)
      (Lib.hid fun w' b k hb => (histWidth_any h.no h.nl b _ w' (HA.out _ k).n hn2.1 hn hb).mono fun e w2 ⟨h1, h2⟩ => ⟨h1, k.trans h2⟩)
      (Lib.hid fun w' b k hb => ?_) hsc hE0
    have := histDown_any h b _ _ w' (HA.out _ k) hok hp hn (by unfold I64; omega)
    have e1 : downE h b = 0 := by unfold downE; rw [if_neg (by omega), if_neg (by omega)]
    have e2 : downR h b = downH h b := by unfold downR; rw [e1, if_pos rfl, Int.toNat_natCast]
    rwa [e1, e2] at this
  · have HF : Hid (FitOf h most zeroH E) := Lib.hid (.inl ⟨hE0, hE, rfl⟩)
    rw [← hE] at HC hE0
    have q : ((E : Int) != 0) = true := bneT (by omega)
    rw [hw0] at HC
    have HC := Lib.hid HC.out
    clear ha k0 bx rx hw0 hE
    obtain ⟨sc, ze, po, pl, no, nl⟩ := h
    unfold histV at HC ⊢
    go_enter Try.func92, Try.ntmps92
    go_wp2_with (go_at_call 30; refine HC.out.mono ?_; rintro e w1 ⟨rfl, k1⟩; rw [← HW0.out] at k1; have K1 := Lib.hid (HK0.out.trans k1); have rx1 := HRX.out.same k1 (fun x => x); have RX1 := Lib.hid rx1; obtain ⟨r0, r1, r2, r3, r4, r5⟩ := rx1.c; obtain ⟨f0, f1, f2, f3, f4, f5⟩ := rx1.f; clear k1 rx1)
    refine hist_end (h := zeroH) Try.results92 rfl rfl rfl (RX1.out.set zeroH (.slice none 0 0) (.slice none 0 0)) ?_
    exact ⟨zeroH, E, HF.out, zeroOut (K1.out.newer (set6_kept _ _ _ _ _ _ _ _) (fun i e => by omega))⟩
end Go.Proofs.Ytiiibhdohlpodaa

-- HA
namespace Go.Proofs.Ytiiibhdohlpodaa

/-- A sum over those places that are taken. -/
def wS (p : Nat → Bool) (g : Nat → Nat) : Nat → Nat
  | 0 => 0
  | n + 1 => wS p g n + if p n = true then g n else 0
theorem wS_congr (p q : Nat → Bool) (g h : Nat → Nat) (n : Nat) (e : ∀ i, i < n → p i = q i ∧ g i = h i) : wS p g n = wS q h n := by
  induction n with
  | zero => rfl
  | succ n ih => simp only [wS]; rw [ih (fun i hi => e i (by omega)), (e n (by omega)).1, (e n (by omega)).2]
theorem wS_zero (p : Nat → Bool) (n : Nat) : wS p (fun _ => 0) n = 0 := by
  induction n with
  | zero => rfl
  | succ n ih => simp [wS, ih]
theorem wS_far (p : Nat → Bool) (g : Nat → Nat) (j x n : Nat) (h : n ≤ j) : wS p (fun i => g i + if j = i then x else 0) n = wS p g n :=
  wS_congr _ _ _ _ _ fun i hi => ⟨rfl, by rw [if_neg (by omega)]; rfl⟩
theorem wS_add (p : Nat → Bool) (g : Nat → Nat) (j x n : Nat) (h : j < n) : wS p (fun i => g i + if j = i then x else 0) n = wS p g n + if p j = true then x else 0 := by
  induction n with
  | zero => omega
  | succ n ih =>
    simp only [wS]
    by_cases e : j = n
    · subst e
      rw [wS_far p g j x j (Nat.le_refl _), if_pos rfl]
      split <;> omega
    · rw [ih (by omega), if_neg e]
      simp only [Nat.add_zero]
      omega
theorem dSum_wS (o : Int) (l : List Nat) (b m j : Nat) : dSum o l b m j = wS (fun i => dIdx o b i == j) (fun i => l.getD i 0) m := by
  induction m with
  | zero => rfl
  | succ m ih => simp only [dSum, wS, ih, beq_iff_eq]
theorem wS_down (p : Nat → Bool) (o : Int) (l : List Nat) (b m W : Nat) (h : ∀ i, i < m → dIdx o b i < W) : wS p (dSum o l b m) W = wS (fun i => p (dIdx o b i)) (fun i => l.getD i 0) m := by
  induction m with
  | zero => exact wS_zero p W
  | succ m ih =>
    have := wS_add p (dSum o l b m) (dIdx o b m) (l.getD m 0) W (h m (by omega))
    simp only [wS]
    rw [← ih (fun i hi => h i (by omega)), ← this]
    exact wS_congr _ _ _ _ _ fun i _ => ⟨rfl, rfl⟩
theorem downL_get (o : Int) (l : List Nat) (b j : Nat) (h : j < dWidth o l.length b) : (downL o l b).getD j 0 = dSum o l b l.length j := dAcc_get o l b l.length j h
theorem sum_wS (l : List Nat) : l.sum = wS (fun _ => true) (fun i => l.getD i 0) l.length := by
  suffices ∀ m, m ≤ l.length → (l.take m).sum = wS (fun _ => true) (fun i => l.getD i 0) m by
    have := this l.length (Nat.le_refl _)
    rwa [List.take_length] at this
  intro m
  induction m with
  | zero => intro _; simp [wS]
  | succ m ih =>
    intro hm
    have h1 := sumN_take 0 l m (by omega)
    unfold sumN at h1
    have := ih (by omega)
    simp only [wS, if_true]
    omega
theorem downL_sum (o : Int) (l : List Nat) (b : Nat) : (downL o l b).sum = l.sum := by
  rw [sum_wS, sum_wS l, ← wS_down (fun _ => true) o l b l.length (dWidth o l.length b) (fun i hi => dIdx_lt o _ b i hi), downL_length]
  exact wS_congr _ _ _ _ _ fun i hi => ⟨rfl, downL_get o l b i hi⟩

theorem ediv_two (x : Int) (a b : Nat) : x / 2 ^ a / 2 ^ b = x / 2 ^ (a + b) := by
  rw [Int.ediv_ediv, Int.pow_add, if_neg (by have := pow2_pos a; omega)]
  omega
theorem dIdx_two (o : Int) (a b i : Nat) : dIdx (o / 2 ^ a) b (dIdx o a i) = dIdx o (a + b) i := by
  have h1 := dIdx_eq (o / 2 ^ a) b (dIdx o a i)
  have h2 := dIdx_eq o (a + b) i
  have h3 := dIdx_eq o a i
  have e : o / 2 ^ a + ((dIdx o a i : Nat) : Int) = (o + (i : Int)) / 2 ^ a := by omega
  rw [e, ediv_two, ediv_two] at h1
  omega
theorem dWidth_two (o : Int) (n a b : Nat) : dWidth (o / 2 ^ a) (dWidth o n a) b = dWidth o n (a + b) := by
  by_cases h : n = 0
  · subst h; rfl
  · unfold dWidth
    rw [if_neg h, if_neg h, if_neg (by omega)]
    simp only [Nat.add_sub_cancel]
    rw [dIdx_two]
theorem downL_nil (o : Int) (b : Nat) : downL o [] b = [] := rfl
theorem list_ext0 {l m : List Nat} (hl : l.length = m.length) (h : ∀ j, j < l.length → l.getD j 0 = m.getD j 0) : l = m := by
  apply List.ext_getElem hl
  intro j h1 h2
  have := h j h1
  rwa [List.getD_eq_getElem?_getD, List.getD_eq_getElem?_getD, List.getElem?_eq_getElem h1, List.getElem?_eq_getElem h2] at this
theorem downL_two (o : Int) (l : List Nat) (a b : Nat) : downL (o / 2 ^ a) (downL o l a) b = downL o l (a + b) := by
  apply list_ext0
  · rw [downL_length, downL_length, downL_length, dWidth_two]
  · intro j hj
    rw [downL_length, downL_length] at hj
    rw [downL_get _ _ _ _ (by rwa [downL_length]), downL_get _ _ _ _ (by rwa [← dWidth_two]), dSum_wS, dSum_wS, downL_length]
    have := wS_down (fun i => dIdx (o / 2 ^ a) b i == j) o l a l.length (dWidth o l.length a) (fun i hi => dIdx_lt o _ a i hi)
    rw [wS_congr _ _ (fun i => (downL o l a).getD i 0) (dSum o l a l.length) _ (fun i hi => ⟨rfl, downL_get o l a i hi⟩), this]
    exact wS_congr _ _ _ _ _ fun i _ => ⟨by simp only [dIdx_two], rfl⟩
theorem downO_two (o : Int) (l : List Nat) (a b : Nat) : downO (downO o l a) (downL o l a) b = downO o l (a + b) := by
  unfold downO
  rw [downL_length]
  by_cases h : l.length = 0
  · rw [if_pos h, if_pos h, if_pos (by unfold dWidth; rw [if_pos h])]
  · rw [if_neg h, if_neg h, if_neg (by unfold dWidth; rw [if_neg h]; omega), ediv_two]
theorem downL_two' (o : Int) (l : List Nat) (a b : Nat) : downL (downO o l a) (downL o l a) b = downL o l (a + b) := by
  by_cases h : l.length = 0
  · have : l = [] := List.eq_nil_of_length_eq_zero h
    subst this; rfl
  · have e : downO o l a = o / 2 ^ a := by unfold downO; rw [if_neg h]
    rw [e, downL_two]

theorem dIdx_by0 (o : Int) (i : Nat) : dIdx o 0 i = i := by
  have := dIdx_eq o 0 i
  simp at this; omega
theorem downL_by0 (o : Int) (l : List Nat) : downL o l 0 = l := by
  have hw : dWidth o l.length 0 = l.length := by
    unfold dWidth
    split
    · omega
    · rw [dIdx_by0]; omega
  apply list_ext0
  · rw [downL_length, hw]
  · intro j hj
    rw [downL_length] at hj
    rw [downL_get _ _ _ _ hj]
    rw [hw] at hj
    suffices ∀ m, dSum o l 0 m j = if j < m then l.getD j 0 else 0 by rw [this, if_pos hj]
    intro m
    induction m with
    | zero => rfl
    | succ m ih =>
      simp only [dSum, ih, dIdx_by0]
      by_cases e : m = j
      · subst e; rw [if_neg (by omega), if_pos rfl, if_pos (by omega)]; omega
      · rw [if_neg e]
        by_cases e2 : j < m
        · rw [if_pos e2, if_pos (by omega)]; rfl
        · rw [if_neg e2, if_neg (by omega)]
theorem downO_by0 (o : Int) (l : List Nat) (h : l.length = 0 → o = 0) : downO o l 0 = o := by
  unfold downO
  split
  · rename_i e; exact (h e).symm
  · simp

theorem dSum_ge (o : Int) (l : List Nat) (b m i : Nat) (h : i < m) : l.getD i 0 ≤ dSum o l b m (dIdx o b i) := by
  induction m with
  | zero => omega
  | succ m ih =>
    simp only [dSum]
    by_cases e : i = m
    · subst e; rw [if_pos rfl]; omega
    · have := ih (by omega); omega
theorem ediv_in (x : Int) (b : Nat) (K : Int) (h0 : 0 ≤ K) (h1 : -K ≤ x) (h2 : x ≤ K) : -K ≤ x / 2 ^ b ∧ x / 2 ^ b ≤ K := by
  have hp := pow2_pos b
  constructor
  · apply (Int.le_ediv_iff_mul_le hp).2
    have : K * 1 ≤ K * 2 ^ b := Int.mul_le_mul_of_nonneg_left (by omega) h0
    rw [Int.neg_mul]
    omega
  · have : x / 2 ^ b ≤ K / 2 ^ b := Int.ediv_le_ediv hp h2
    have h3 : K / 2 ^ b ≤ K := Int.ediv_le_self _ h0
    omega
theorem sideE_down (o : Int) (l : List Nat) (b : Nat) (h : sideE o l = 0) : sideE (downO o l b) (downL o l b) = 0 := by
  unfold sideE at h ⊢
  rw [downL_length]
  by_cases h0 : l.length = 0
  · have hw : dWidth o l.length b = 0 := by unfold dWidth; rw [if_pos h0]
    rw [hw, if_neg (by omega), if_pos rfl, if_pos (by unfold downO; rw [if_pos h0])]
  · split at h
    · omega
    · split at h
      · omega
      · split at h
        · omega
        · rename_i h1 h2 h3
          have hw : dWidth o l.length b = dIdx o b (l.length - 1) + 1 := by unfold dWidth; rw [if_neg h0]
          have hle := dWidth_le o l.length b
          have ho : downO o l b = o / 2 ^ b := by unfold downO; rw [if_neg h0]
          have g0 := dSum_ge o l b l.length 0 (by omega)
          have g1 := dSum_ge o l b l.length (l.length - 1) (by omega)
          rw [dIdx_zero] at g0
          have hi := dIdx_eq o b (l.length - 1)
          have b1 := ediv_in o b 1073741824 (by omega) (by omega) (by omega)
          have b2 := ediv_in (o + ((l.length - 1 : Nat) : Int)) b 1073741824 (by omega) (by omega) (by omega)
          have e1 := downL_get o l b 0 (by omega)
          have e2 := downL_get o l b (dIdx o b (l.length - 1)) (by omega)
          rw [if_neg (by omega), if_neg (by omega)]
          rw [if_neg, if_neg]
          · rw [ho, hw]; omega
          · rw [hw, Nat.add_sub_cancel, e1, e2]; omega

/-- A bucket more. -/
theorem dIdx_next (o : Int) (b n : Nat) : dIdx o b (n + 1) = dIdx o b n ∨ dIdx o b (n + 1) = dIdx o b n + 1 := by
  have h1 := dIdx_eq o b n
  have h2 := dIdx_eq o b (n + 1)
  have h3 := dIdx_mono o b n (n + 1) (by omega)
  have h4 : (o + ((n + 1 : Nat) : Int)) / 2 ^ b ≤ (o + (n : Int)) / 2 ^ b + 1 := by
    have hp := pow2_pos b
    have : o + ((n + 1 : Nat) : Int) ≤ o + (n : Int) + 1 * 2 ^ b := by omega
    have h5 := Int.ediv_le_ediv hp this
    rwa [Int.add_mul_ediv_right _ _ (by omega)] at h5
  omega
theorem getD_left (l : List Nat) (x i : Nat) (h : i < l.length) : (l ++ [x]).getD i 0 = l.getD i 0 := by
  rw [List.getD_eq_getElem?_getD, List.getElem?_append_left h, ← List.getD_eq_getElem?_getD]
theorem getD_last (l : List Nat) (x : Nat) : (l ++ [x]).getD l.length 0 = x := by
  rw [List.getD_eq_getElem?_getD, List.getElem?_append_right (Nat.le_refl _)]; simp
theorem dSum_app (o : Int) (l : List Nat) (x b j : Nat) : dSum o (l ++ [x]) b (l.length + 1) j = dSum o l b l.length j + if dIdx o b l.length = j then x else 0 := by
  have : dSum o (l ++ [x]) b l.length j = dSum o l b l.length j := by
    rw [dSum_wS, dSum_wS]
    exact wS_congr _ _ _ _ _ fun i hi => ⟨rfl, getD_left l x i hi⟩
  simp only [dSum]
  rw [this, getD_last]
theorem dSum_none (o : Int) (l : List Nat) (b m j : Nat) (h : ∀ i, i < m → dIdx o b i < j) : dSum o l b m j = 0 := by
  induction m with
  | zero => rfl
  | succ m ih =>
    have := h m (by omega)
    simp only [dSum]
    rw [ih (fun i hi => h i (by omega)), if_neg (by omega)]
theorem downL_same (o : Int) (l : List Nat) (x b : Nat) (h0 : l.length ≠ 0) (h : dIdx o b l.length = dIdx o b (l.length - 1)) :
    downL o (l ++ [x]) b = (downL o l b).take (dWidth o l.length b - 1) ++ [(downL o l b).getD (dWidth o l.length b - 1) 0 + x] := by
  have hw : dWidth o l.length b = dIdx o b (l.length - 1) + 1 := by unfold dWidth; rw [if_neg h0]
  have hw2 : dWidth o (l ++ [x]).length b = dWidth o l.length b := by
    rw [hw]; unfold dWidth; rw [List.length_append, List.length_singleton, if_neg (by omega), Nat.add_sub_cancel, h]
  apply list_ext0
  · rw [downL_length, hw2, List.length_append, List.length_take, downL_length, List.length_singleton]; omega
  · intro j hj
    rw [downL_length] at hj
    rw [downL_get _ _ _ _ hj, List.length_append, List.length_singleton, dSum_app]
    rw [hw2] at hj
    by_cases e : j = dWidth o l.length b - 1
    · subst e
      rw [if_pos (by omega), List.getD_eq_getElem?_getD, List.getElem?_append_right (by rw [List.length_take, downL_length]; omega), List.length_take, downL_length]
      rw [show dWidth o l.length b - 1 - min (dWidth o l.length b - 1) (dWidth o l.length b) = 0 by omega]
      rw [downL_get _ _ _ _ (by omega)]
      rfl
    · rw [if_neg (by omega), List.getD_eq_getElem?_getD, List.getElem?_append_left (by rw [List.length_take, downL_length]; omega), List.getElem?_take_of_lt (by omega), ← List.getD_eq_getElem?_getD, downL_get _ _ _ _ (by omega)]
      omega
theorem downL_new (o : Int) (l : List Nat) (x b : Nat) (h0 : l.length ≠ 0) (h : dIdx o b l.length = dIdx o b (l.length - 1) + 1) :
    downL o (l ++ [x]) b = downL o l b ++ [x] := by
  have hw : dWidth o l.length b = dIdx o b (l.length - 1) + 1 := by unfold dWidth; rw [if_neg h0]
  have hw2 : dWidth o (l ++ [x]).length b = dWidth o l.length b + 1 := by
    rw [hw]; unfold dWidth; rw [List.length_append, List.length_singleton, if_neg (by omega), Nat.add_sub_cancel, h]
  apply list_ext0
  · rw [downL_length, hw2, List.length_append, downL_length, List.length_singleton]
  · intro j hj
    rw [downL_length] at hj
    rw [downL_get _ _ _ _ hj, List.length_append, List.length_singleton, dSum_app]
    rw [hw2] at hj
    by_cases e : j = dWidth o l.length b
    · rw [if_pos (by omega), dSum_none o l b l.length j (fun i hi => by have := dIdx_lt o l.length b i hi; omega)]
      have := getD_last (downL o l b) x
      rw [downL_length, ← e] at this
      rw [this]; omega
    · rw [if_neg (by omega), getD_left _ _ _ (by rw [downL_length]; omega), downL_get _ _ _ _ (by omega)]
      omega
theorem downL_one (o : Int) (x b : Nat) : downL o [x] b = [x] := by
  have hw : dWidth o [x].length b = 1 := by
    have := dIdx_zero o b
    unfold dWidth; simp [this]
  apply list_ext0
  · rw [downL_length, hw]; rfl
  · intro j hj
    rw [downL_length, hw] at hj
    obtain rfl : j = 0 := by omega
    rw [downL_get _ _ _ _ (by omega)]
    simp [dSum, dIdx_zero]
end Go.Proofs.Ytiiibhdohlpodaa

-- HB
namespace Go.Proofs.Ytiiibhdohlpodaa

def atP (o : Int) (l : List Nat) (m : Nat) (i : Int) : Nat := if o ≤ i ∧ i < o + (m : Int) then l.getD (i - o).toNat 0 else 0
theorem dSum_atP (o : Int) (l : List Nat) (m j : Nat) : dSum o l 1 m j = atP o l m (2 * (o / 2 + (j : Int))) + atP o l m (2 * (o / 2 + (j : Int)) + 1) := by
  induction m with
  | zero => simp only [dSum, atP]; rw [if_neg (by omega), if_neg (by omega)]
  | succ m ih =>
    simp only [dSum]
    rw [ih]
    have hi := dIdx_eq o 1 m
    have e2 : (2 : Int) ^ 1 = 2 := rfl
    rw [e2] at hi
    unfold atP
    by_cases h : dIdx o 1 m = j
    · rw [if_pos h]
      rcases Int.emod_two_eq (o + (m : Int)) with hm | hm
      · have a : 2 * (o / 2 + (j : Int)) = o + (m : Int) := by omega
        rw [a, if_neg (by omega), if_neg (by omega), if_pos (by omega), if_neg (by omega), show (o + (m : Int) - o).toNat = m by omega]
        omega
      · have a : 2 * (o / 2 + (j : Int)) + 1 = o + (m : Int) := by omega
        rw [a]
        have hc : (o ≤ 2 * (o / 2 + (j : Int)) ∧ 2 * (o / 2 + (j : Int)) < o + (m : Int)) ↔ (o ≤ 2 * (o / 2 + (j : Int)) ∧ 2 * (o / 2 + (j : Int)) < o + ((m + 1 : Nat) : Int)) := by omega
        simp only [hc]
        rw [if_neg (c := o ≤ o + (m : Int) ∧ o + (m : Int) < o + (m : Int)) (by omega), if_pos (c := o ≤ o + (m : Int) ∧ o + (m : Int) < o + ((m + 1 : Nat) : Int)) (by omega), show (o + (m : Int) - o).toNat = m by omega]
        omega
    · rw [if_neg h]
      have hc : ∀ e : Int, e = 0 ∨ e = 1 → ((o ≤ 2 * (o / 2 + (j : Int)) + e ∧ 2 * (o / 2 + (j : Int)) + e < o + (m : Int)) ↔ (o ≤ 2 * (o / 2 + (j : Int)) + e ∧ 2 * (o / 2 + (j : Int)) + e < o + ((m + 1 : Nat) : Int))) := by
        intro e he
        omega
      have c0 := hc 0 (.inl rfl)
      have c1 := hc 1 (.inr rfl)
      rw [Int.add_zero] at c0
      simp only [c0, c1]
      omega
theorem atN_down (o k : Int) (l : List Nat) : atN (downO o l 1) (downL o l 1) k = atN o l (2 * k) + atN o l (2 * k + 1) := by
  have e2 : (2 : Int) ^ 1 = 2 := rfl
  by_cases h0 : l.length = 0
  · unfold atN
    rw [downL_length, h0, if_neg, if_neg (by omega), if_neg (by omega)]
    unfold dWidth; rw [if_pos rfl]; omega
  · have ho : downO o l 1 = o / 2 := by unfold downO; rw [if_neg h0, e2]
    have hw : dWidth o l.length 1 = dIdx o 1 (l.length - 1) + 1 := by unfold dWidth; rw [if_neg h0]
    have hi := dIdx_eq o 1 (l.length - 1)
    rw [e2] at hi
    rw [ho]
    unfold atN
    rw [downL_length]
    by_cases hk : o / 2 ≤ k ∧ k < o / 2 + ((dWidth o l.length 1 : Nat) : Int)
    · rw [if_pos hk, downL_get _ _ _ _ (by omega), dSum_atP]
      have e : o / 2 + (((k - o / 2).toNat : Nat) : Int) = k := by omega
      rw [e]; rfl
    · rw [if_neg hk, if_neg (by omega), if_neg (by omega)]
/-- The number that an index halved is, to below. -/
theorem half_eq (i : Int) : i / 2 ^ 1 = i / 2 := rfl
end Go.Proofs.Ytiiibhdohlpodaa

-- J1
namespace Go.Proofs.Ytiiibhdohlpodaa
open Go.RowKit
attribute [local go_sem ↓] Go.wp_at_zero Go.wp_at_succ

set_option maxHeartbeats 4000000 in
set_option maxRecDepth 100000 in
theorem refSum_any (a : Nat) (l : List Nat) (v : Value) (w : World) (hv : SlAt w v (uvals l)) (ha : a < 18446744073709551616) (hl : l.length ≤ 1000000) (hb : ∀ x ∈ l, x < 18446744073709551616) :
    Calls Try.prog 106 #[.int .u64 (a : Int), v] w fun e w' => e = .returned (sumV a l) ∧ w' = w := by
  have hv0 := Lib.hid hv
  obtain ⟨ao, c, hval, _, _⟩ := hv.val
  rw [uvals_length] at hval
  subst hval
  have HLE := Lib.hid fun i => sumN_le a l i
  have HST := Lib.hid fun i (hi : i < l.length) => sumN_take a l i hi
  obtain ⟨T, hT⟩ : ∃ T, T = sumN a l := ⟨_, rfl⟩
  have HT := Lib.hid hT
  have HBAD : Hid (18446744073709551616 ≤ T → Ending.returned (.tuple #[.int .u64 0, .bool false]) = .returned (sumV a l)) := Lib.hid fun h => by
    unfold sumV; rw [← hT, if_neg (by omega), decide_eq_false (by omega)]; rfl
  have HGOOD : Hid (T < 18446744073709551616 → Ending.returned (.tuple #[.int .u64 (T : Int), .bool true]) = .returned (sumV a l)) := Lib.hid fun h => by
    unfold sumV; rw [← hT, if_pos h, decide_eq_true h]
  clear hv hT
  go_enter Try.func106, Try.ntmps106
  go_wp2
  go_loopg [0, 6] l.length (fun g s0 s6 wr => ∃ i : Nat, i ≤ l.length ∧ g = l.length - i ∧ s6 = .int .i64 i ∧ s0 = .int .u64 ((sumN a (l.take i) : Nat) : Int) ∧ sumN a (l.take i) < 18446744073709551616 ∧ wr = w)
  case atStart => exact ⟨0, Nat.zero_le _, rfl, rfl, by rw [List.take_zero, sumN_nil], by rw [List.take_zero, sumN_nil]; exact ha, rfl⟩
  case round =>
    obtain ⟨i, hil, rfl, rfl, rfl, hSi, rfl⟩ := hrel
    obtain ⟨X, hX⟩ : ∃ X, X = sumN a (l.take i) := ⟨_, rfl⟩
    rw [← hX] at hSi ⊢
    by_cases hd : i < l.length
    · have hdi : (i : Int) < (l.length : Int) := by omega
      have i0 : (0 : Int) ≤ (i : Int) := by omega
      have HD := Lib.hid hd
      obtain ⟨g, off, rfl, c0⟩ := hv0.out.elem (uvals_get hd)
      obtain ⟨y, hy⟩ : ∃ y, y = l.getD i 0 := ⟨_, rfl⟩
      rw [← hy] at c0
      have hst := HST.out i hd
      rw [← hX, ← hy] at hst
      have hle := HLE.out (i + 1)
      rw [hst, ← HT.out] at hle
      have hyb : y < 18446744073709551616 := by rw [hy]; exact getD_u64 hb i
      obtain ⟨Z, hZ⟩ : ∃ Z : Nat, Z = 18446744073709551615 - X := ⟨_, rfl⟩
      have e1 : IntKind.u64.wrap (18446744073709551615 - (X : Int)) = (Z : Int) := by rw [IntKind.wrap_u64]; omega
      have e2 : (18446744073709551615 : Int) - (X : Int) = (Z : Int) := by omega
      have e3 : IntKind.u64.wrap (Z : Int) = (Z : Int) := by rw [IntKind.wrap_u64]; omega
      by_cases hov : Z < y
      · have hov' : (Z : Int) < (y : Int) := by omega
        have HBIG := Lib.hid (show 18446744073709551616 ≤ T by omega)
        clear hst hX hy hd hle hyb hSi hZ
        go_wp2
        go_ret2
        exact ⟨HBAD.out HBIG.out, rfl⟩
      · have hov' : ¬ (Z : Int) < (y : Int) := by omega
        obtain ⟨Y, hY⟩ : ∃ Y, Y = X + y := ⟨_, rfl⟩
        have e4 : IntKind.u64.wrap ((X : Int) + (y : Int)) = (Y : Int) := by rw [IntKind.wrap_u64]; omega
        have e5 : IntKind.u64.wrap (Y : Int) = (Y : Int) := by rw [IntKind.wrap_u64]; omega
        have e6 : (X : Int) + (y : Int) = (Y : Int) := by omega
        rw [← hY] at hst
        have HS2 := Lib.hid hst
        have HOV := Lib.hid (show Y < 18446744073709551616 by omega)
        clear hst hX hy hd hle hyb hSi hZ hY hov
        go_wp2
        go_roundg (l.length - (i + 1))
        case measure => have := HD.out; omega
        case rel => exact ⟨i + 1, HD.out, rfl, by go_num, by rw [HS2.out], by rw [HS2.out]; exact HOV.out, rfl⟩
    · obtain rfl : i = l.length := by omega
      rw [List.take_length, ← HT.out] at hX
      subst hX
      have HSI := Lib.hid hSi
      clear hd hSi
      go_wp2
      go_ret2
      exact ⟨HGOOD.out HSI.out, rfl⟩

set_option maxHeartbeats 4000000 in
set_option maxRecDepth 100000 in
theorem refTotal_any (h : HistV) (pv nv : Value) (w : World) (ha : HistAt w h pv nv) (hz : h.ze < 18446744073709551616) (hp : h.pl.length ≤ 1000000) (hn : h.nl.length ≤ 1000000) (hpb : ∀ x ∈ h.pl, x < 18446744073709551616) (hnb : ∀ x ∈ h.nl, x < 18446744073709551616) :
    Calls Try.prog 82 #[histV h pv nv] w fun e w' => e = .returned (totV h) ∧ Kept (fun _ => False) w w' := by
  obtain ⟨⟨ao, c, rfl⟩, bo, d, rfl⟩ := ha.sl
  have HS1 := Lib.hid fun w' (k : Kept (fun _ => False) w w') => refSum_any h.ze h.pl _ w' (ha.on k).p hz hp hpb
  have HS2 := Lib.hid fun w' (k : Kept (fun _ => False) w w') (a : Nat) (hA : a < 18446744073709551616) => refSum_any a h.nl _ w' (ha.on k).n hA hn hnb
  obtain ⟨T1, hT1⟩ : ∃ T, T = sumN h.ze h.pl := ⟨_, rfl⟩
  have htot : h.total = sumN T1 h.nl := by rw [hT1]; rfl
  have hle : T1 ≤ sumN T1 h.nl := by unfold sumN; omega
  obtain ⟨T2, hT2⟩ : ∃ T, T = sumN T1 h.nl := ⟨_, rfl⟩
  rw [← hT2] at hle htot
  have HT : Hid (totV h = .tuple #[.int .u64 (((if T2 < 18446744073709551616 then T2 else 0 : Nat)) : Int), .bool (decide (T2 < 18446744073709551616))]) := Lib.hid (by unfold totV; rw [htot])
  have HT2 := Lib.hid hT2
  unfold sumV at HS1 HS2
  rw [← hT1] at HS1
  have HSB := Lib.hid fun w' (k : Kept (fun _ => False) w w') (hA : T1 < 18446744073709551616) => HS2.out w' k T1 hA
  rw [← hT2] at HSB
  have kb := (Kept.refl (fun _ => False) w).alloc (.cells #[.int .i64 h.sc, .int .u64 (h.ze : Int), .int .i64 h.po, .slice ao h.pl.length c, .int .i64 h.no, .slice bo h.nl.length d] 30)
  have KB := Lib.hid kb
  have HLE := Lib.hid hle
  clear ha hT1 htot hT2 HS2 kb hle hz
  obtain ⟨sc, ze, po, pl, no, nl⟩ := h
  unfold histV
  simp only at HS1 HSB KB
  by_cases h1 : T1 < 18446744073709551616
  · rw [if_pos h1, decide_eq_true h1] at HS1
    have HB2 := Lib.hid fun w' k => HSB.out w' k h1
    by_cases h2 : T2 < 18446744073709551616
    all_goals
      first
        | rw [if_pos h2, decide_eq_true h2] at HB2 HT
        | rw [if_neg h2, decide_eq_false h2] at HB2 HT
      clear HSB h1 h2
      go_enter Try.func82, Try.ntmps82
      go_wp2_with (first
        | (have _tok := HW1.out; go_at_call 106; refine (HB2.out _ KB.out).mono ?_; rintro e w2 ⟨rfl, rfl⟩)
        | (go_at_call 106; refine (HS1.out _ KB.out).mono ?_; rintro e w1 ⟨rfl, hw1⟩; have HW1 := Lib.hid hw1; subst hw1)
        | fail)
      go_ret2
      exact ⟨by rw [HT.out]; rfl, KB.out⟩
  · have HX := Lib.hid (show totV ⟨sc, ze, po, pl, no, nl⟩ = .tuple #[.int .u64 0, .bool false] by rw [HT.out, if_neg (by have := HLE.out; omega), decide_eq_false (by have := HLE.out; omega)]; rfl)
    rw [if_neg h1, decide_eq_false h1] at HS1
    clear HSB h1
    go_enter Try.func82, Try.ntmps82
    go_wp2_with (first
      | (go_at_call 106; refine (HS1.out _ KB.out).mono ?_; rintro e w1 ⟨rfl, rfl⟩)
      | fail)
    go_ret2
    exact ⟨by rw [HX.out]; rfl, KB.out⟩
end Go.Proofs.Ytiiibhdohlpodaa

-- J2
namespace Go.Proofs.Ytiiibhdohlpodaa
open Go.RowKit
attribute [local go_sem ↓] Go.wp_at_zero Go.wp_at_succ

set_option maxHeartbeats 1000000 in
theorem refSide_any (o : Int) (l : List Nat) (v : Value) (w : World) (hv : SlAt w v (uvals l)) (ho : I64 o) (hl : l.length ≤ 1000000) :
    Calls Try.prog 104 #[.agg #[.int .i64 o, v]] w fun e w' => e = .returned (.int .i64 ((sideE o l : Nat) : Int)) ∧ Kept (fun _ => False) w w' := by
  obtain ⟨h0, h1⟩ := ho
  have hv0 := Lib.hid hv
  obtain ⟨ao, c, hval, _, _⟩ := hv.val
  rw [uvals_length] at hval
  subst hval
  by_cases hA : 160 < l.length
  · have e : sideE o l = 4 := by unfold sideE; rw [if_pos hA]
    have q : (160 : Int) < (l.length : Int) := by omega
    rw [e]
    clear hv e
    go_enter Try.func104, Try.ntmps104
    go_wp2
    go_ret
    exact ⟨rfl, (Kept.refl _ _).alloc _⟩
  · have q1 : ¬ (160 : Int) < (l.length : Int) := by omega
    have q1b : decide (160 < l.length) = false := decide_eq_false hA
    by_cases hB : l.length = 0
    · have q2 : ((l.length : Int) == 0) = true := beqT (by omega)
      by_cases hC : o = 0
      · have e : sideE o l = 0 := by unfold sideE; rw [if_neg hA, if_pos hB, if_pos hC]
        rw [e]
        have q3 : (o != 0) = false := by simp [hC]
        clear hv e hC hB
        go_enter Try.func104, Try.ntmps104
        go_wp2
        go_ret
        exact ⟨rfl, (Kept.refl _ _).alloc _⟩
      · have e : sideE o l = 3 := by unfold sideE; rw [if_neg hA, if_pos hB, if_neg hC]
        rw [e]
        have q3 : (o != 0) = true := by simp [hC]
        clear hv e hC hB
        go_enter Try.func104, Try.ntmps104
        go_wp2
        go_ret
        exact ⟨rfl, (Kept.refl _ _).alloc _⟩
    · have q2 : ((l.length : Int) == 0) = false := beqF (by omega)
      obtain ⟨n, hn⟩ : ∃ n, n = l.length - 1 := ⟨_, rfl⟩
      have hv1 := hv.kept ((Kept.refl (fun _ => False) w).alloc (.cells #[.int .i64 o, .slice ao l.length c] 28)) (fun _ _ x => x)
      obtain ⟨g, off, e1, c0⟩ := hv1.elem (uvals_get (j := 0) (by omega))
      subst e1
      obtain ⟨_, _, e', c1⟩ := hv1.elem (uvals_get (j := n) (by omega))
      injection e' with e'; injection e' with e1 e2; subst e1; subst e2
      rw [Nat.add_zero] at c0
      have l0 : (0 : Int) < (l.length : Int) := by omega
      have l0n : 0 < l.length := by omega
      have n1 : IntKind.i64.wrap ((l.length : Int) - 1) = (n : Int) := by rw [IntWalk.i64_in _ ⟨by omega, by omega⟩]; omega
      have n2 : (l.length : Int) - 1 = (n : Int) := by omega
      have n0 : (0 : Int) ≤ (n : Int) := by omega
      have nl : (n : Int) < (l.length : Int) := by omega
      obtain ⟨x, hx⟩ : ∃ x, x = l.getD 0 0 := ⟨_, rfl⟩
      obtain ⟨y, hy⟩ : ∃ y, y = l.getD n 0 := ⟨_, rfl⟩
      have hd : sideE o l = if x = 0 ∨ y = 0 then 3 else if o < -1073741824 ∨ 1073741824 < o + ((l.length : Nat) : Int) - 1 then 1 else 0 := by
        unfold sideE; rw [if_neg hA, if_neg hB, hx, hy, hn]
      have HD := Lib.hid hd
      rw [← hx] at c0
      rw [← hy] at c1
      have m1 : 1073741824 - (n : Int) = 1073741825 - (l.length : Int) := by omega
      have hcase : x = 0 ∨ (x ≠ 0 ∧ y = 0) ∨ (x ≠ 0 ∧ y ≠ 0 ∧ o < -1073741824) ∨ (x ≠ 0 ∧ y ≠ 0 ∧ ¬ o < -1073741824 ∧ 1073741824 < o) ∨ (x ≠ 0 ∧ y ≠ 0 ∧ ¬ o < -1073741824 ∧ ¬ 1073741824 < o ∧ 1073741824 < o + (n : Int)) ∨ (x ≠ 0 ∧ y ≠ 0 ∧ ¬ o < -1073741824 ∧ ¬ 1073741824 < o ∧ ¬ 1073741824 < o + (n : Int)) := by omega
      have hres : (x = 0 ∨ y = 0 → sideE o l = 3) ∧ (x ≠ 0 → y ≠ 0 → (o < -1073741824 ∨ 1073741824 < o ∨ 1073741824 < o + (n : Int)) → sideE o l = 1) ∧ (x ≠ 0 → y ≠ 0 → ¬ o < -1073741824 → ¬ 1073741824 < o → ¬ 1073741824 < o + (n : Int) → sideE o l = 0) := by
        rw [hd]
        refine ⟨fun h => by rw [if_pos h], fun a b h => by rw [if_neg (by omega), if_pos (by omega)], fun a b h i j => by rw [if_neg (by omega), if_neg (by omega)]⟩
      have HRES := Lib.hid hres
      clear hv hv1 hd hres hx hy hn hA hB m1
      rcases hcase with h | ⟨h, h'⟩ | ⟨h, h', h''⟩ | ⟨h, h', h'', h3⟩ | ⟨h, h', h'', h3, h4⟩ | ⟨h, h', h'', h3, h4⟩
      · have e := HRES.out.1 (.inl h)
        have qx : ((x : Int) == 0) = true := by simp; omega
        rw [e]
        clear e h
        go_enter Try.func104, Try.ntmps104
        go_wp2
        go_ret
        exact ⟨rfl, (Kept.refl _ _).alloc _⟩
      · have e := HRES.out.1 (.inr h')
        have qx : ((x : Int) == 0) = false := by simp; omega
        have qy : ((y : Int) == 0) = true := by simp; omega
        rw [e]
        clear e h h'
        go_enter Try.func104, Try.ntmps104
        go_wp2
        go_ret
        exact ⟨rfl, (Kept.refl _ _).alloc _⟩
      all_goals
        have qx : ((x : Int) == 0) = false := by simp; omega
        have qy : ((y : Int) == 0) = false := by simp; omega
        try
          have s1 : IntKind.i64.wrap (o + (l.length : Int)) = o + (l.length : Int) := IntWalk.i64_in _ ⟨by omega, by omega⟩
          have s2 : IntKind.i64.wrap (o + (l.length : Int) - 1) = o + (n : Int) := by rw [IntWalk.i64_in _ ⟨by omega, by omega⟩]; omega
          have s3 : IntKind.i64.wrap (o + (n : Int)) = o + (n : Int) := IntWalk.i64_in _ ⟨by omega, by omega⟩
          have s4 : o + (l.length : Int) - 1 = o + (n : Int) := by omega
        first
          | have e := HRES.out.2.2 h h' h'' h3 h4
          | have e := HRES.out.2.1 h h' (.inr (.inr h4))
          | have e := HRES.out.2.1 h h' (.inr (.inl h3))
          | have e := HRES.out.2.1 h h' (.inl h'')
        rw [e]
        clear e h h'
        go_enter Try.func104, Try.ntmps104
        go_wp2
        go_ret
        exact ⟨rfl, (Kept.refl _ _).alloc _⟩

end Go.Proofs.Ytiiibhdohlpodaa

-- J3
namespace Go.Proofs.Ytiiibhdohlpodaa
open Go.RowKit
attribute [local go_sem ↓] Go.wp_at_zero Go.wp_at_succ

end Go.Proofs.Ytiiibhdohlpodaa

-- J4
namespace Go.Proofs.Ytiiibhdohlpodaa
open Go.RowKit
attribute [local go_sem ↓] Go.wp_at_zero Go.wp_at_succ

set_option maxHeartbeats 4000000 in
set_option maxRecDepth 100000 in
theorem refCheck_any (h : HistV) (pv nv : Value) (w : World) (ha : HistAt w h pv nv) (hok : h.ok) (hp : h.pl.length ≤ 1000000) (hn : h.nl.length ≤ 1000000) :
    Calls Try.prog 79 #[histV h pv nv] w fun e w' => e = .returned (.int .i64 ((h.err : Nat) : Int)) ∧ Kept (fun _ => False) w w' := by
  obtain ⟨⟨ao, c, rfl⟩, bo, d, rfl⟩ := ha.sl
  have HCP := Lib.hid fun w' (k : Kept (fun _ => False) w w') => refSide_any h.po h.pl _ w' (ha.on k).p hok.po hp
  have HCN := Lib.hid fun w' (k : Kept (fun _ => False) w w') => refSide_any h.no h.nl _ w' (ha.on k).n hok.no hn
  have HTO := Lib.hid fun w' (k : Kept (fun _ => False) w w') => refTotal_any h _ _ w' (ha.on k) hok.ze hp hn hok.pl hok.nl
  have hsc := hok.sc
  have hE : h.err = if h.sc < -10 ∨ 20 < h.sc then 1 else if sideE h.po h.pl ≠ 0 then sideE h.po h.pl else if sideE h.no h.nl ≠ 0 then sideE h.no h.nl else if 18446744073709551616 ≤ h.total then 4 else 0 := rfl
  obtain ⟨E1, hE1⟩ : ∃ E, E = sideE h.po h.pl := ⟨_, rfl⟩
  obtain ⟨E2, hE2⟩ : ∃ E, E = sideE h.no h.nl := ⟨_, rfl⟩
  rw [← hE1, ← hE2] at hE
  rw [← hE1] at HCP
  rw [← hE2] at HCN
  unfold totV at HTO
  obtain ⟨T, hT⟩ : ∃ E, E = h.total := ⟨_, rfl⟩
  rw [← hT] at hE HTO
  obtain ⟨ER, hER⟩ : ∃ E, E = h.err := ⟨_, rfl⟩
  rw [← hER] at hE ⊢
  have kb := (Kept.refl (fun _ => False) w).alloc (.cells #[.int .i64 h.sc, .int .u64 (h.ze : Int), .int .i64 h.po, .slice ao h.pl.length c, .int .i64 h.no, .slice bo h.nl.length d] 30)
  have KB := Lib.hid kb
  have hbx : HistBox (w.alloc (.cells #[.int .i64 h.sc, .int .u64 (h.ze : Int), .int .i64 h.po, .slice ao h.pl.length c, .int .i64 h.no, .slice bo h.nl.length d] 30)) w.heap.size h (.slice ao h.pl.length c) (.slice bo h.nl.length d) := heap_alloc_new w _
  have HBX := Lib.hid hbx
  obtain ⟨sc, ze, po, pl, no, nl⟩ := h
  unfold histV at HTO ⊢
  simp only at HCP HCN HTO hE hsc KB HBX ⊢
  clear ha hok hE1 hE2 hT hER kb hbx
  by_cases h1 : sc < -10
  · rw [if_pos (.inl h1)] at hE
    subst hE
    go_enter Try.func79, Try.ntmps79
    go_wp2
    go_ret
    exact ⟨rfl, KB.out⟩
  · by_cases h2 : 20 < sc
    · rw [if_pos (.inr h2)] at hE
      subst hE
      go_enter Try.func79, Try.ntmps79
      go_wp2
      go_ret
      exact ⟨rfl, KB.out⟩
    · rw [if_neg (by omega)] at hE
      have HE := Lib.hid hE
      clear hE
      obtain ⟨wb, hwb⟩ : ∃ wb, wb = w.alloc (.cells #[.int .i64 sc, .int .u64 (ze : Int), .int .i64 po, .slice ao pl.length c, .int .i64 no, .slice bo nl.length d] 30) := ⟨_, rfl⟩
      rw [← hwb] at KB HBX
      have HWB := Lib.hid hwb
      clear hwb
      by_cases z1 : E1 = 0
      · have q1 : ((E1 : Int) != 0) = false := bneF (by omega)
        have HE1 := Lib.hid (HE.out.trans (if_neg (by omega)))
        by_cases z2 : E2 = 0
        · have q2 : ((E2 : Int) != 0) = false := bneF (by omega)
          have HE2 := Lib.hid (HE1.out.trans (if_neg (by omega)))
          by_cases ht : T < 18446744073709551616
          all_goals
            first
              | (rw [if_pos ht, decide_eq_true ht] at HTO; have HE3 := Lib.hid (HE2.out.trans (if_neg (by omega))))
              | (rw [if_neg ht, decide_eq_false ht] at HTO; have HE3 := Lib.hid (HE2.out.trans (if_pos (by omega))))
            clear z1 z2 ht
            go_enter Try.func79, Try.ntmps79
            go_wp2_with (first
              | (have _tok := HK2.out; go_at_call 82; refine (HTO.out _ (KB.out.trans HK2.out)).mono ?_; rintro e w3 ⟨rfl, k3⟩; have HK3 := Lib.hid (HK2.out.trans k3); clear k3)
              | (have _tok := HK1.out; go_at_call 104; refine (HCN.out _ (KB.out.trans HK1.out)).mono ?_; rintro e w2 ⟨rfl, k2⟩; have HK2 := Lib.hid (HK1.out.trans k2); obtain ⟨c0, c1, c2, c3, c4, c5⟩ := (HBX.out.same HK2.out (fun x => x)).c; clear k2)
              | (go_at_call 104; rw [← HWB.out]; refine (HCP.out _ KB.out).mono ?_; rintro e w1 ⟨rfl, k1⟩; have HK1 := Lib.hid k1; obtain ⟨c0, c1, c2, c3, c4, c5⟩ := (HBX.out.same HK1.out (fun x => x)).c; clear k1)
              | fail)
            go_ret
            exact ⟨by rw [HE3.out]; rfl, KB.out.trans HK3.out⟩
        · have q2 : ((E2 : Int) != 0) = true := bneT (by omega)
          have HE2 := Lib.hid (HE1.out.trans (if_pos z2))
          clear z1 z2
          go_enter Try.func79, Try.ntmps79
          go_wp2_with (first
            | (have _tok := HK1.out; go_at_call 104; refine (HCN.out _ (KB.out.trans HK1.out)).mono ?_; rintro e w2 ⟨rfl, k2⟩; have HK2 := Lib.hid (HK1.out.trans k2); clear k2)
            | (go_at_call 104; rw [← HWB.out]; refine (HCP.out _ KB.out).mono ?_; rintro e w1 ⟨rfl, k1⟩; have HK1 := Lib.hid k1; obtain ⟨c0, c1, c2, c3, c4, c5⟩ := (HBX.out.same HK1.out (fun x => x)).c; clear k1)
            | fail)
          go_ret
          exact ⟨by rw [HE2.out]; rfl, KB.out.trans HK2.out⟩
      · have q1 : ((E1 : Int) != 0) = true := bneT (by omega)
        have HE1 := Lib.hid (HE.out.trans (if_pos z1))
        clear z1
        go_enter Try.func79, Try.ntmps79
        go_wp2_with (first
          | (go_at_call 104; rw [← HWB.out]; refine (HCP.out _ KB.out).mono ?_; rintro e w1 ⟨rfl, k1⟩; have HK1 := Lib.hid k1; clear k1)
          | fail)
        go_ret
        exact ⟨by rw [HE1.out]; rfl, KB.out.trans HK1.out⟩

instance (g h : HistV) : Decidable (sameH g h) := by unfold sameH; infer_instance
end Go.Proofs.Ytiiibhdohlpodaa

-- J5
namespace Go.Proofs.Ytiiibhdohlpodaa
open Go.RowKit
attribute [local go_sem ↓] Go.wp_at_zero Go.wp_at_succ

theorem getD_drop (l : List Nat) (i j : Nat) : (l.drop i).getD j 0 = l.getD (i + j) 0 := by
  simp only [List.getD_eq_getElem?_getD, List.getElem?_drop]

set_option maxHeartbeats 4000000 in
set_option maxRecDepth 100000 in
theorem refTrim_any (o : Int) (l : List Nat) (v : Value) (w : World) (hv : SlAt w v (uvals l)) (hcap : ∀ a n c, v = .slice a n c → n ≤ c) (ho : -4000000000000000000 ≤ o ∧ o ≤ 4000000000000000000) (hl : l.length ≤ 1000000) :
    Calls Try.prog 80 #[.agg #[.int .i64 o, v]] w (SideOut w (TrimOf o l)) := by
  obtain ⟨h0, h1⟩ := ho
  have hv0 := Lib.hid hv
  obtain ⟨ao, c, hval, _, _⟩ := hv.val
  rw [uvals_length] at hval
  subst hval
  have hcp := hcap _ _ _ rfl
  obtain ⟨w0, hw0⟩ : ∃ w0, w0 = ((w.alloc (.cells #[.int .i64 o, .slice ao l.length c] 28)).alloc (.cells #[.int .i64 0, .slice none 0 0] 28)) := ⟨_, rfl⟩
  have k0 : Kept (fun _ => False) w w0 := by rw [hw0]; exact ((Kept.refl _ w).alloc _).alloc _
  have rx : SideBox w0 (w.heap.size + 1) 0 (.slice none 0 0) := by
    rw [hw0]
    have := heap_alloc_new (w.alloc (.cells #[.int .i64 o, .slice ao l.length c] 28)) (.cells #[.int .i64 0, .slice none 0 0] 28)
    simpa [SideBox] using this
  have HV := Lib.hid (hv.kept k0 (fun _ _ x => x))
  have RX := Lib.hid rx
  have K0 := Lib.hid k0
  obtain ⟨iU, hiU, hzU0, hzU1, hzU2⟩ := info_parts Try.infoU64
  have HIU := Lib.hid hiU
  have HZU := Lib.hid hzU1
  clear hv hcap rx k0 hiU hzU0 hzU1 hzU2
  go_enter Try.func80, Try.ntmps80
  go_wp2
  rw [← hw0]
  clear hw0
  go_loopg [3, 4, 10, 11, 12, 13, 14, 15, 16, 17, 18, 19, 20, 21, 22] l.length (fun g s3 s4 s10 s11 s12 s13 s14 s15 s16 s17 s18 s19 s20 s21 s22 wr => ∃ (i m : Nat) (a3 : Option Addr) (c3 : Nat), i + m = l.length ∧ g = m ∧ s3 = .slice a3 m c3 ∧ m ≤ c3 ∧ SlAt w0 (.slice a3 m c3) (uvals (l.drop i)) ∧ s4 = .int .i64 (o + (i : Int)) ∧ (∀ j, j < i → l.getD j 0 = 0) ∧ w0 = wr)
  case atStart => exact ⟨0, l.length, ao, c, by omega, rfl, rfl, hcp, HV.out, by simp, fun j h => by omega, rfl⟩
  case round =>
    obtain ⟨i, m, a3, c3, him, rfl, rfl, hmc, hs3, rfl, hz, rfl⟩ := hrel
    obtain ⟨m, hm⟩ : ∃ m, m = gk := ⟨_, rfl⟩
    subst hm
    have HZ := Lib.hid hz
    have HS3 := Lib.hid hs3
    have HIM := Lib.hid him
    clear hz hs3
    by_cases hm0 : m = 0
    · have HF : Hid (TrimOf o l 0 []) := Lib.hid (.inl ⟨fun j hj => HZ.out j (by omega), rfl, rfl⟩)
      subst hm0
      clear him
      go_wp2
      go_loopg [3] 0 (fun g s3 wr => g = 0 ∧ s3 = .slice a3 0 c3 ∧ w0 = wr)
      case atStart => exact ⟨rfl, rfl, rfl⟩
      case round =>
        obtain ⟨rfl, rfl, rfl⟩ := hrel
        obtain ⟨⟨r0, r1⟩, f0, f1⟩ := RX.out.c
        go_wp2
        refine side_end (o := 0) (v := .slice none 0 0) Try.results80 rfl rfl (RX.out.set 0 (.slice none 0 0)) ?_
        exact ⟨0, [], _, HF.out, rfl, Mine.nil' _ (two_kept K0.out (by omega))⟩
    · have hml : (0 : Int) < (m : Int) := by omega
      have hmln : 0 < m := by omega
      have HLEN : Hid ((l.drop i).length = m) := Lib.hid (by rw [List.length_drop]; omega)
      obtain ⟨g, off, rfl, c0⟩ := HS3.out.elem (uvals_get (j := 0) (by rw [HLEN.out]; omega))
      rw [Nat.add_zero] at c0
      obtain ⟨x, hx⟩ : ∃ x, x = (l.drop i).getD 0 0 := ⟨_, rfl⟩
      rw [← hx] at c0
      have HX := Lib.hid hx
      clear hx
      by_cases hx0 : x = 0
      · have qx : ((x : Int) == 0) = true := beqT (by omega)
        obtain ⟨m', hm'⟩ : ∃ m', m' = m - 1 := ⟨_, rfl⟩
        obtain ⟨c', hc'⟩ : ∃ c', c' = c3 - 1 := ⟨_, rfl⟩
        obtain ⟨a4, ha4⟩ : ∃ a : Option Addr, a = if c3 = 1 then some ⟨g, off, none⟩ else (some (⟨g, off, none⟩ : Addr)).map (·.add 1) := ⟨_, rfl⟩
        have s1 : ∀ w, (Instr.slice 26 (.slice (some ⟨g, off, none⟩) m c3) (some (.int .i64 1)) none none).run Try.prog w = .ok (.slice a4 m' c') w := fun w => by
          have := run_cutL (P := Try.prog) Try.underlying26 HIU.out HZU.out (some ⟨g, off, none⟩) m c3 1 (by omega) w
          rw [← ha4, ← hm', ← hc'] at this; exact this
        have s2 : ∀ w, (Instr.sliceAt 26 (.slice (some ⟨g, off, none⟩) m c3) (some (.int .i64 1)) none none).run Try.prog w = .ok (.slice a4 m' c') w := fun w => by
          have := run_cutLAt (P := Try.prog) Try.underlying26 HIU.out HZU.out (some ⟨g, off, none⟩) m c3 1 (by omega) w
          rw [← ha4, ← hm', ← hc'] at this; exact this
        have hsl := HS3.out.cutL (lo := 1) (by omega) hmc
        rw [← ha4, ← hm', ← hc', ← uvals_drop, List.drop_drop] at hsl
        have HSL := Lib.hid hsl
        have HM := Lib.hid (show m' < m ∧ i + 1 + m' = l.length ∧ m' ≤ c' by omega)
        have HZ2 := Lib.hid (show ∀ j, j < i + 1 → l.getD j 0 = 0 from fun j hj => by
          by_cases e : j = i
          · have := HX.out; rw [getD_drop, Nat.add_zero] at this; rw [e, ← this]; exact hx0
          · exact HZ.out j (by omega))
        have e1 : IntKind.i64.wrap (o + (i : Int) + 1) = o + (i : Int) + 1 := IntWalk.i64_in _ ⟨by omega, by omega⟩
        have HE := Lib.hid (show o + (i : Int) + 1 = o + ((i + 1 : Nat) : Int) by omega)
        clear ha4 hm' hc' hsl hx0
        go_wp2
        go_roundg m'
        case measure => exact HM.out.1
        case rel => exact ⟨i + 1, m', a4, c', HM.out.2.1, rfl, rfl, HM.out.2.2, HSL.out, by rw [HE.out], HZ2.out, rfl⟩
      · have qx : ((x : Int) == 0) = false := beqF (by omega)
        have HXN := Lib.hid hx0
        obtain ⟨L, hL⟩ : ∃ L, L = l.drop i := ⟨_, rfl⟩
        rw [← hL] at HS3 HLEN HX
        have HL := Lib.hid hL
        clear hL hx0
        go_wp2
        go_loopg [3, 23, 24, 25, 26, 27, 28, 29, 30, 31, 32, 33, 34, 35, 36, 37, 38, 39] m (fun g' s3 s23 s24 s25 s26 s27 s28 s29 s30 s31 s32 s33 s34 s35 s36 s37 s38 s39 wr => ∃ b : Nat, 0 < b ∧ b ≤ m ∧ g' = b ∧ s3 = .slice (some ⟨g, off, none⟩) b c3 ∧ (∀ j, b ≤ j → j < m → L.getD j 0 = 0) ∧ w0 = wr)
        case atStart => exact ⟨m, hmln, Nat.le_refl _, rfl, rfl, fun j h1 h2 => by omega, rfl⟩
        case round =>
          obtain ⟨b, hb0, hbm, rfl, rfl, hz2, rfl⟩ := hrel
          have HZ2 := Lib.hid hz2
          obtain ⟨b', hb'⟩ : ∃ b', b' = gk - 1 := ⟨_, rfl⟩
          have e1 : IntKind.i64.wrap ((gk : Int) - 1) = (b' : Int) := by rw [IntWalk.i64_in _ ⟨by omega, by omega⟩]; omega
          have e2 : (gk : Int) - 1 = (b' : Int) := by omega
          have e3 : IntKind.i64.wrap (b' : Int) = (b' : Int) := IntWalk.i64_in _ ⟨by omega, by omega⟩
          have b'0 : (0 : Int) ≤ (b' : Int) := by omega
          have b'l : (b' : Int) < (gk : Int) := by omega
          have hb0i : (0 : Int) < (gk : Int) := by omega
          obtain ⟨_, _, e', cb⟩ := HS3.out.elem (uvals_get (j := b') (by rw [HLEN.out]; omega))
          injection e' with e'; injection e' with e1' e2'; subst e1'; subst e2'
          obtain ⟨y, hye⟩ : ∃ y, y = L.getD b' 0 := ⟨_, rfl⟩
          rw [← hye] at cb
          have HYE := Lib.hid hye
          clear hz2 hye
          by_cases hy : y = 0
          · have hne : b' ≠ 0 := by
              intro e
              have h1 := HYE.out
              rw [e, ← HX.out] at h1
              exact HXN.out (by omega)
            have qy : ((y : Int) == 0) = true := beqT (by omega)
            have s1 : ∀ w, (Instr.slice 26 (.slice (some ⟨g, off, none⟩) gk c3) none (some (.int .i64 (b' : Int))) none).run Try.prog w = .ok (.slice (some ⟨g, off, none⟩) b' c3) w :=
              fun w => run_cutH (P := Try.prog) Try.underlying26 HIU.out HZU.out (some ⟨g, off, none⟩) gk c3 b' (by omega) w
            have s2 : ∀ w, (Instr.sliceAt 26 (.slice (some ⟨g, off, none⟩) gk c3) none (some (.int .i64 (b' : Int))) none).run Try.prog w = .ok (.slice (some ⟨g, off, none⟩) b' c3) w :=
              fun w => run_cutHAt (P := Try.prog) Try.underlying26 HIU.out HZU.out (some ⟨g, off, none⟩) gk c3 b' (by omega) w
            have HZ3 := Lib.hid (show ∀ j, b' ≤ j → j < m → L.getD j 0 = 0 from fun j h1 h2 => by
              by_cases e : j = b'
              · rw [e, ← HYE.out]; exact hy
              · exact HZ2.out j (by omega) h2)
            have HB := Lib.hid (show 0 < b' ∧ b' ≤ m ∧ b' < gk by omega)
            clear hy hb' hbm hb0 hne
            go_wp2
            go_roundg b'
            case measure => exact HB.out.2.2
            case rel => exact ⟨b', HB.out.1, HB.out.2.1, rfl, rfl, HZ3.out, rfl⟩
          · have qy : ((y : Int) == 0) = false := beqF (by omega)
            have qz : ((gk : Int) == 0) = false := beqF (by omega)
            have HF : Hid (TrimOf o l (o + (i : Int)) (L.take gk)) := Lib.hid (.inr ⟨i, i + gk, by omega, by omega, HZ.out, fun j h1 h2 => by
                have := HZ2.out (j - i) (by omega) (by have := HIM.out; omega)
                rw [HL.out, getD_drop] at this
                rwa [show i + (j - i) = j by omega] at this, by
                have := HX.out; rw [HL.out, getD_drop, Nat.add_zero] at this; rw [← this]; exact HXN.out, by
                have h1 := HYE.out
                rw [HL.out, getD_drop] at h1
                rw [show i + gk - 1 = i + b' by omega, ← h1]; exact hy, rfl, by rw [HL.out, show i + gk - i = gk by omega]⟩)
            have hsl := (HS3.out.takeH (k := gk) hbm)
            rw [← uvals_take] at hsl
            have HSRC := Lib.hid (hsl.src (P := Try.prog) Try.underlying26 (uvals_one _))
            have HLT := Lib.hid (show (uvals (L.take gk)).length ≤ 1000000 by rw [uvals_length, List.length_take]; have := HLEN.out; omega)
            clear hy hb' hbm hsl
            go_wp2_with (at_builtin; refine wpList_mineU rfl (.tmp 44) (.tmp 45) rfl w _ _ rfl (Mine.nil' _ K0.out) _ _ rfl HSRC.out (by have := HLT.out; simp only [List.length_nil]; omega) ?_; intro v6 w6 hm6 hk6 _; rw [List.nil_append] at hm6; obtain ⟨a6, c6, rfl⟩ := hm6.slice; have HM6 := Lib.hid hm6; have rx6 := RX.out.same hk6 (fun e => by cases e); have RX6 := Lib.hid rx6; obtain ⟨⟨r0, r1⟩, f0, f1⟩ := rx6.c; clear hm6 hk6 rx6)
            refine side_end (o := o + (i : Int)) (v := .slice a6 (uvals (L.take gk)).length c6) Try.results80 rfl rfl (RX6.out.set _ _) ?_
            exact ⟨o + (i : Int), _, _, HF.out, rfl, HM6.out.setBox RX6.out (by decide) (by omega) _ _⟩
set_option maxHeartbeats 1000000 in
theorem refHalf_any (i : Int) (w : World) (hi : -4000000000000000000 ≤ i ∧ i ≤ 4000000000000000000) :
    Calls Try.prog 105 #[.int .i64 i] w fun e w' => e = .returned (.int .i64 (i / 2)) ∧ w' = w := by
  obtain ⟨h0, h1⟩ := hi
  by_cases h : i < 0
  · have e0 : IntKind.i64.wrap (1 - i) = 1 - i := IntWalk.i64_in _ ⟨by omega, by omega⟩
    have e1 : Int.tdiv (1 - i) 2 = (1 - i) / 2 := Int.tdiv_eq_ediv_of_nonneg (by omega)
    have e2 : IntKind.i64.wrap ((1 - i) / 2) = (1 - i) / 2 := IntWalk.i64_in _ ⟨by omega, by omega⟩
    have e3 : IntKind.i64.wrap (0 - (1 - i) / 2) = i / 2 := by rw [IntWalk.i64_in _ ⟨by omega, by omega⟩]; omega
    have e4 : IntKind.i64.wrap (-((1 - i) / 2)) = i / 2 := by rw [IntWalk.i64_in _ ⟨by omega, by omega⟩]; omega
    go_enter Try.func105, Try.ntmps105
    go_wp2
    go_ret
    exact ⟨rfl, rfl⟩
  · have e1 : Int.tdiv i 2 = i / 2 := Int.tdiv_eq_ediv_of_nonneg (by omega)
    have e2 : IntKind.i64.wrap (i / 2) = i / 2 := IntWalk.i64_in _ ⟨by omega, by omega⟩
    go_enter Try.func105, Try.ntmps105
    go_wp2
    go_ret
    exact ⟨rfl, rfl⟩
end Go.Proofs.Ytiiibhdohlpodaa

-- J6
namespace Go.Proofs.Ytiiibhdohlpodaa
open Go.RowKit
attribute [local go_sem ↓] Go.wp_at_zero Go.wp_at_succ

theorem sum_take_le (l : List Nat) (i : Nat) : (l.take i).sum ≤ l.sum := by
  have := sumN_le 0 l i
  unfold sumN at this; omega
theorem mem_sum {l : List Nat} {x : Nat} (h : x ∈ l) : x ≤ l.sum := by
  induction l with
  | nil => cases h
  | cons a l ih =>
    rw [List.sum_cons]
    rcases List.mem_cons.1 h with e | e
    · omega
    · have := ih e; omega
theorem getD_sum (l : List Nat) (i : Nat) : l.getD i 0 ≤ l.sum := by
  rw [List.getD_eq_getElem?_getD]
  by_cases h : i < l.length
  · rw [List.getElem?_eq_getElem h]; exact mem_sum (List.getElem_mem h)
  · rw [List.getElem?_eq_none (by omega)]; simp

/-- What once answers so far: its cells' blocks and its counts. -/
structure OnceAt (w wr : World) (o : Int) (v1 : Value) (o3 : Int) (v3 : Value) (l3 : List Nat) : Prop where
  b1 : SideBox wr w.heap.size o v1
  b2 : SideBox wr (w.heap.size + 1) 0 (.slice none 0 0)
  b3 : SideBox wr (w.heap.size + 1 + 1) o3 v3
  own : Mine w wr 25 v3 (uvals l3)
theorem OnceAt.on {w wr w' : World} {o o3 : Int} {v1 v3 : Value} {l3 : List Nat} (h : OnceAt w wr o v1 o3 v3 l3) (k : Kept (fun _ => False) wr w') : OnceAt w w' o v1 o3 v3 l3 :=
  ⟨h.b1.same k (fun x => x), h.b2.same k (fun x => x), h.b3.same k (fun x => x), h.own.on k⟩
theorem setCell_kept (w : World) (q j : Nat) (x : Value) : Kept (fun k => k = q) w (w.setCell ⟨q, j, none⟩ x) := (Kept.refl (fun k => k = q) w).setCell (p := ⟨q, j, none⟩) (fun _ => rfl) x
theorem SideBox.set1 {w : World} {q : Nat} {o : Int} {v : Value} (h : SideBox w q o v) (v' : Value) : SideBox (w.setCell ⟨q, 1, none⟩ v') q o v' := by
  unfold SideBox at *; simp [World.setCell, Array.getElem?_modify, h]
theorem SideBox.set0 {w : World} {q : Nat} {o : Int} {v : Value} (h : SideBox w q o v) (o' : Int) : SideBox (w.setCell ⟨q, 0, none⟩ (.int .i64 o')) q o' v := by
  unfold SideBox at *; simp [World.setCell, Array.getElem?_modify, h]
theorem OnceAt.set1 {w wr : World} {o o3 : Int} {v1 v3 v' : Value} {l' : List Nat} (b1 : SideBox wr w.heap.size o v1) (b2 : SideBox wr (w.heap.size + 1) 0 (.slice none 0 0)) (b3 : SideBox wr (w.heap.size + 1 + 1) o3 v3) (hm : Mine w wr 25 v' (uvals l')) :
    OnceAt w (wr.setCell ⟨w.heap.size + 1 + 1, 1, none⟩ v') o v1 o3 v' l' :=
  ⟨b1.same (setCell_kept _ _ _ _) (by omega), b2.same (setCell_kept _ _ _ _) (by omega), b3.set1 v', hm.keptS (setCell_kept _ _ _ _) (fun k e x => own_box hm.own b3 (by decide) (by rw [e, x])) (fun k e => by omega)⟩
theorem OnceAt.set0 {w wr : World} {o o3 : Int} {v1 v3 : Value} {l3 : List Nat} (h : OnceAt w wr o v1 o3 v3 l3) (o' : Int) : OnceAt w (wr.setCell ⟨w.heap.size + 1 + 1, 0, none⟩ (.int .i64 o')) o v1 o' v3 l3 :=
  ⟨h.b1.same (setCell_kept _ _ _ _) (by omega), h.b2.same (setCell_kept _ _ _ _) (by omega), h.b3.set0 o', h.own.keptS (setCell_kept _ _ _ _) (fun k e x => own_box h.own.own h.b3 (by decide) (by rw [e, x])) (fun k e => by omega)⟩

/-- The cells' blocks alone. -/
structure Boxes (w wr : World) (o : Int) (v1 : Value) (o3 : Int) (v3 : Value) : Prop where
  b1 : SideBox wr w.heap.size o v1
  b2 : SideBox wr (w.heap.size + 1) 0 (.slice none 0 0)
  b3 : SideBox wr (w.heap.size + 1 + 1) o3 v3
theorem OnceAt.boxes {w wr : World} {o o3 : Int} {v1 v3 : Value} {l3 : List Nat} (h : OnceAt w wr o v1 o3 v3 l3) : Boxes w wr o v1 o3 v3 := ⟨h.b1, h.b2, h.b3⟩
theorem Boxes.on {w wr w' : World} {o o3 : Int} {v1 v3 : Value} (h : Boxes w wr o v1 o3 v3) (k : Kept (fun _ => False) wr w') : Boxes w w' o v1 o3 v3 :=
  ⟨h.b1.same k (fun x => x), h.b2.same k (fun x => x), h.b3.same k (fun x => x)⟩
theorem Boxes.grow {w wr w' : World} {o o3 : Int} {v1 v3 v : Value} {xs : List Value} (h : Boxes w wr o v1 o3 v3) (hv : Mine w wr 25 v xs) (k : Kept (fun k => v.ownBlock = some k) wr w') : Boxes w w' o v1 o3 v3 :=
  ⟨h.b1.same k (own_box hv.own h.b1 (by decide)), h.b2.same k (own_box hv.own h.b2 (by decide)), h.b3.same k (own_box hv.own h.b3 (by decide))⟩
theorem mine_one {W w : World} (hk : Kept (fun _ => False) W w) (u : Value) : Mine W (w.alloc (.cells #[u] 25)) 25 (.slice (some ⟨w.heap.size, 0, none⟩) 1 1) [u] :=
  ⟨⟨rfl, .inr ⟨w.heap.size, 1, #[u], rfl, hk.size, heap_alloc_new w _, Nat.le_refl _, by unfold maxLen; omega, rfl, by simp⟩⟩, hk.alloc _⟩
theorem mine_empty {W w : World} (hk : Kept (fun _ => False) W w) : Mine W (w.alloc (.cells #[] 25)) 25 (.slice (some ⟨w.heap.size, 0, none⟩) 0 0) [] :=
  ⟨⟨rfl, .inr ⟨w.heap.size, 0, #[], rfl, hk.size, heap_alloc_new w _, Nat.le_refl _, by unfold maxLen; omega, rfl, rfl⟩⟩, hk.alloc _⟩

set_option maxHeartbeats 4000000 in
set_option maxRecDepth 100000 in
theorem refOnce_any (o : Int) (l : List Nat) (v : Value) (w : World) (hv : SlAt w v (uvals l)) (ho : -1000000000000 ≤ o ∧ o ≤ 1000000000000) (hl : l.length ≤ 1000000) (hs : l.sum < 18446744073709551616) :
    Calls Try.prog 81 #[.agg #[.int .i64 o, v]] w (SideOut w fun o' l' => o' = downO o l 1 ∧ l' = downL o l 1) := by
  obtain ⟨h0, h1⟩ := ho
  obtain ⟨ao, c, hval, _, _⟩ := hv.val
  rw [uvals_length] at hval
  subst hval
  obtain ⟨w0, hw0⟩ : ∃ w0, w0 = ((w.alloc (.cells #[.int .i64 o, .slice ao l.length c] 28)).alloc (.cells #[.int .i64 0, .slice none 0 0] 28)).alloc (.cells #[.int .i64 0, .slice none 0 0] 28) := ⟨_, rfl⟩
  have k0 : Kept (fun _ => False) w w0 := by rw [hw0]; exact (((Kept.refl _ w).alloc _).alloc _).alloc _
  have hat : OnceAt w w0 o (.slice ao l.length c) 0 (.slice none 0 0) [] := by
    refine ⟨?_, ?_, ?_, Mine.nil' _ k0⟩
    · rw [hw0]; exact (((Kept.refl (fun _ => False) _).alloc _).alloc _).same (heap_alloc_new w _) (fun x => x)
    · rw [hw0]
      have := ((Kept.refl (fun _ => False) ((w.alloc (.cells #[.int .i64 o, .slice ao l.length c] 28)).alloc (.cells #[.int .i64 0, .slice none 0 0] 28))).alloc (.cells #[.int .i64 0, .slice none 0 0] 28)).same (heap_alloc_new (w.alloc (.cells #[.int .i64 o, .slice ao l.length c] 28)) (.cells #[.int .i64 0, .slice none 0 0] 28)) (fun x => x)
      simpa [SideBox] using this
    · rw [hw0]
      have := heap_alloc_new ((w.alloc (.cells #[.int .i64 o, .slice ao l.length c] 28)).alloc (.cells #[.int .i64 0, .slice none 0 0] 28)) (.cells #[.int .i64 0, .slice none 0 0] 28)
      simpa [SideBox] using this
  have HV := Lib.hid hv
  have HAT := Lib.hid hat
  clear hv hat k0
  go_enter Try.func81, Try.ntmps81
  go_wp2
  rw [← hw0]
  clear hw0
  go_loopg [4, 5, 6, 7, 8, 9, 10, 11, 12, 13, 14, 15, 16, 17, 18, 19, 20, 21, 22, 23, 24, 25, 26, 27, 28, 29, 30, 31, 32, 33, 34, 35, 36, 37, 38, 39, 40, 41, 42, 43, 44, 45, 46, 47, 48, 49, 50, 51, 52, 53, 54, 55, 56, 57, 58, 59, 60, 61, 62, 63, 64, 65, 66, 67, 68, 69, 70, 71, 72, 73, 74, 75, 76, 77] l.length (fun g' s4 s5 s6 s7 s8 s9 s10 s11 s12 s13 s14 s15 s16 s17 s18 s19 s20 s21 s22 s23 s24 s25 s26 s27 s28 s29 s30 s31 s32 s33 s34 s35 s36 s37 s38 s39 s40 s41 s42 s43 s44 s45 s46 s47 s48 s49 s50 s51 s52 s53 s54 s55 s56 s57 s58 s59 s60 s61 s62 s63 s64 s65 s66 s67 s68 s69 s70 s71 s72 s73 s74 s75 s76 s77 wr => ∃ (i : Nat) (v3 : Value), i ≤ l.length ∧ g' = l.length - i ∧ s4 = .int .i64 i ∧ OnceAt w wr o (.slice ao l.length c) (downO o (l.take i) 1) v3 (downL o (l.take i) 1))
  case atStart => exact ⟨0, _, Nat.zero_le _, rfl, rfl, by rw [List.take_zero]; exact HAT.out⟩
  case round =>
    obtain ⟨i, v3, hil, rfl, rfl, hat⟩ := hrel
    have HA := Lib.hid hat
    obtain ⟨⟨b0, b1⟩, _⟩ := hat.b1.c
    by_cases hd : i < l.length
    · have hdi : (i : Int) < (l.length : Int) := by omega
      have i0 : (0 : Int) ≤ (i : Int) := by omega
      have HD := Lib.hid hd
      obtain ⟨⟨d0, d1⟩, f0, f1⟩ := hat.b3.c
      have HSL := Lib.hid (hat.own.kept |> fun k => HV.out.kept k (fun _ _ x => x))
      obtain ⟨g, off, rfl, c0⟩ := HSL.out.elem (uvals_get hd)
      have hts := take_snoc hd
      have hsn := sum_take_le l (i + 1)
      obtain ⟨x, hx⟩ : ∃ x, x = l.getD i 0 := ⟨_, rfl⟩
      rw [← hx] at c0 hts
      have hlt : (l.take i).length = i := by rw [List.length_take]; omega
      obtain ⟨T, hT⟩ : ∃ T, T = l.take i := ⟨_, rfl⟩
      rw [← hT] at hts HA hat hlt d0
      rw [hts, List.sum_append, List.sum_singleton] at hsn
      have hla := downL_sum o T 1
      have t1 : IntKind.i64.wrap (o + (i : Int)) = o + (i : Int) := IntWalk.i64_in _ ⟨by omega, by omega⟩
      have HH := Lib.hid (fun w' => refHalf_any (o + (i : Int)) w' ⟨by omega, by omega⟩)
      obtain ⟨A, hA⟩ : ∃ A, A = (o + (i : Int)) / 2 := ⟨_, rfl⟩
      rw [← hA] at HH
      have e2 : (2 : Int) ^ 1 = 2 := rfl
      obtain ⟨a3, q3, rfl⟩ := hat.own.slice
      rw [uvals_length, downL_length, hlt] at HA d1
      have HTS := Lib.hid hts
      have HX := Lib.hid hx
      clear hat hx hT hts
      obtain ⟨Wd, hWd⟩ : ∃ Wd, Wd = dWidth o i 1 := ⟨_, rfl⟩
      rw [← hWd] at HA d1
      by_cases hi0 : i = 0
      · have hT0 : T = [] := List.eq_nil_of_length_eq_zero (by omega)
        have q0 : ((Wd : Int) == 0) = true := beqT (by rw [hWd, hi0]; rfl)
        have HNEW := Lib.hid (show downO o (l.take (i + 1)) 1 = A ∧ downL o (l.take (i + 1)) 1 = [x] from ⟨by rw [HTS.out, hT0]; unfold downO; rw [if_neg (by simp), e2, hA, hi0]; simp, by rw [HTS.out, hT0]; exact downL_one o x 1⟩)
        have HA1 := Lib.hid (HA.out.set0 A)
        obtain ⟨_, _, e', c1⟩ := (HV.out.kept HA1.out.own.kept (fun _ _ x => x)).elem (uvals_get hd)
        injection e' with e'; injection e' with e1 e2'; subst e1; subst e2'
        rw [← HX.out] at c1
        have ha2 := HA1.out.on ((Kept.refl (fun _ => False) _).alloc (.cells #[.int .u64 (x : Int)] 25))
        have HA2 := Lib.hid ha2
        obtain ⟨⟨_, g1⟩, g2, g3⟩ := ha2.b3.c
        clear hA hla hlt hsn hil hd e2 hi0 hT0 hWd HSL ha2
        go_wp2_with (first | (go_at_call 105; refine (HH.out _).mono ?_; rintro e w1 ⟨rfl, rfl⟩) | fail)
        have HB := Lib.hid (OnceAt.set1 HA2.out.b1 HA2.out.b2 HA2.out.b3 (l' := [x]) (mine_one HA1.out.own.kept (.int .u64 (x : Int))))
        go_roundg (l.length - (i + 1))
        case measure => have := HD.out; omega
        case rel =>
          have hb := HB.out
          rw [show (w1.setCell ⟨w.heap.size + 1 + 1, 0, none⟩ (.int .i64 A)).heap.size = w1.heap.size by simp] at hb
          exact ⟨i + 1, _, HD.out, rfl, by go_num, by rw [HNEW.out.1, HNEW.out.2]; exact hb⟩
      · have hT0 : T.length ≠ 0 := by omega
        have hWi : Wd = dIdx o 1 (i - 1) + 1 := by rw [hWd]; unfold dWidth; rw [if_neg hi0]
        have hWp : 0 < Wd := by omega
        have hWle := dWidth_le o i 1
        rw [← hWd] at hWle
        have hnx := dIdx_next o 1 (i - 1)
        rw [show i - 1 + 1 = i by omega] at hnx
        have hO3 : downO o T 1 = o / 2 := by unfold downO; rw [if_neg hT0]; rfl
        have hO4 : downO o (l.take (i + 1)) 1 = o / 2 := by rw [HTS.out]; unfold downO; rw [if_neg (by simp)]; rfl
        have hix := dIdx_eq o 1 i
        rw [e2, ← hA] at hix
        have q0 : ((Wd : Int) == 0) = false := beqF (by omega)
        have hsame := downL_same o T x 1 hT0
        have hnew := downL_new o T x 1 hT0
        rw [hlt, ← HTS.out] at hsame hnew
        rw [← hWd] at hsame
        rw [hO3] at HA d0
        obtain ⟨O3, hO⟩ : ∃ O3, O3 = o / 2 := ⟨_, rfl⟩
        rw [← hO] at HA d0 hix hO4
        have HO4 := Lib.hid hO4
        have hOb : -1000000000000 ≤ O3 ∧ O3 ≤ 1000000000000 := by omega
        obtain ⟨L3, hL3⟩ : ∃ L3, L3 = downL o T 1 := ⟨_, rfl⟩
        have hl3 : L3.length = Wd := by rw [hL3, downL_length, hlt, hWd]
        rw [← hL3] at HA hsame hnew hla
        obtain ⟨n1, hn1⟩ : ∃ n1, n1 = Wd - 1 := ⟨_, rfl⟩
        rw [← hn1] at hsame
        have w1' : IntKind.i64.wrap (O3 + (Wd : Int)) = O3 + (Wd : Int) := IntWalk.i64_in _ ⟨by omega, by omega⟩
        have w2' : IntKind.i64.wrap (O3 + (Wd : Int) - 1) = O3 + (Wd : Int) - 1 := IntWalk.i64_in _ ⟨by omega, by omega⟩
        obtain ⟨g3, off3, rfl, c3⟩ := HA.out.own.at_.elem (uvals_get (j := n1) (by omega))
        obtain ⟨y, hy⟩ : ∃ y, y = L3.getD n1 0 := ⟨_, rfl⟩
        rw [← hy] at c3 hsame
        have hys := getD_sum L3 n1
        rw [← hy] at hys
        by_cases hcond : dIdx o 1 i = dIdx o 1 (i - 1)
        · have q1 : (A == O3 + (Wd : Int) - 1) = true := beqT (by omega)
          have HNEW := Lib.hid (hsame hcond)
          obtain ⟨Y, hY⟩ : ∃ Y, Y = y + x := ⟨_, rfl⟩
          rw [← hY] at HNEW
          have u1 : IntKind.u64.wrap ((y : Int) + (x : Int)) = (Y : Int) := by rw [IntKind.wrap_u64]; omega
          have u2 : IntKind.u64.wrap (Y : Int) = (Y : Int) := by rw [IntKind.wrap_u64]; omega
          have u3 : (y : Int) + (x : Int) = (Y : Int) := by omega
          have n2 : IntKind.i64.wrap ((Wd : Int) - 1) = (n1 : Int) := by rw [IntWalk.i64_in _ ⟨by omega, by omega⟩]; omega
          have n3 : (Wd : Int) - 1 = (n1 : Int) := by omega
          have n4 : IntKind.i64.wrap (n1 : Int) = (n1 : Int) := IntWalk.i64_in _ ⟨by omega, by omega⟩
          have n0 : (0 : Int) ≤ (n1 : Int) := by omega
          have nW : (n1 : Int) < (Wd : Int) := by omega
          have HL3 := Lib.hid (show L3.length = Wd ∧ n1 ≤ Wd ∧ Wd ≤ 1000000 by omega)
          obtain ⟨iU, hiU, hzU0, hzU1, hzU2⟩ := info_parts Try.infoU64
          have hq3 : n1 ≤ q3 := by
            have := HA.out.own.own.2
            rcases this with ⟨e, _⟩ | ⟨_, _, _, e, _, _, h6, h7, _⟩
            · cases e
            · injection e with e1 e2 e3; omega
          have s1 : ∀ w, (Instr.slice 26 (.slice (some ⟨g3, off3, none⟩) Wd q3) none (some (.int .i64 (n1 : Int))) none).run Try.prog w = .ok (.slice (some ⟨g3, off3, none⟩) n1 q3) w :=
            fun w => run_cutH (P := Try.prog) Try.underlying26 hiU hzU1 (some ⟨g3, off3, none⟩) Wd q3 n1 hq3 w
          have s2 : ∀ w, (Instr.sliceAt 26 (.slice (some ⟨g3, off3, none⟩) Wd q3) none (some (.int .i64 (n1 : Int))) none).run Try.prog w = .ok (.slice (some ⟨g3, off3, none⟩) n1 q3) w :=
            fun w => run_cutHAt (P := Try.prog) Try.underlying26 hiU hzU1 (some ⟨g3, off3, none⟩) Wd q3 n1 hq3 w
          clear hA hla hlt hsn hil hd e2 hi0 hT0 hWd HSL hcond hsame hnew hY hy hys hix hO hOb hO3 hO4 hL3 hn1 hWi hWle hnx hl3 hiU hzU0 hzU1 hzU2 hq3
          go_wp2_with (first | (go_at_call 105; refine (HH.out _).mono ?_; rintro e w1 ⟨rfl, rfl⟩) | fail)
          go_quiet (fail)
          obtain ⟨w2, hw2⟩ : ∃ w2, w2 = w1.drewN nq := ⟨_, rfl⟩
          have k2 : Kept (fun _ => False) w1 w2 := by rw [hw2]; exact (Kept.refl _ _).drewN _
          have hb2 := HA.out.boxes.on k2
          have HB2 := Lib.hid (hb2.on ((Kept.refl (fun _ => False) _).alloc (.cells #[] 25)))
          have HM2 := Lib.hid (mine_empty (HA.out.own.kept.trans k2))
          have hsl := ((HA.out.own.on (k2.alloc (.cells #[] 25))).at_.takeH (k := n1) HL3.out.2.1)
          rw [← uvals_take] at hsl
          have HSRC := Lib.hid (hsl.src (P := Try.prog) Try.underlying26 (uvals_one _))
          have HLT := Lib.hid (show (uvals (L3.take n1)).length ≤ 1000000 by rw [uvals_length, List.length_take]; have := HL3.out; omega)
          obtain ⟨⟨b0, b1⟩, _⟩ := HB2.out.b1.c
          obtain ⟨⟨d0, d1⟩, _⟩ := HB2.out.b3.c
          rw [← hw2]
          clear hw2 k2 hb2 hsl
          go_wp2_with (first
            | (have _tok := HM6.out; at_builtin; refine wpList_mineU rfl (.tmp 63) (.tmp 65) rfl w _ _ rfl (HM6.out.alloc _) _ _ rfl (src_oneU w6 (.int .u64 (Y : Int)) rfl) (by have := HLT.out; simp only [List.length_singleton]; omega) ?_; intro v7 w7 hm7 hk7 _; have HM7 := Lib.hid hm7; have hb7 := (HB6.out.on ((Kept.refl (fun _ => False) _).alloc (.cells #[.int .u64 (Y : Int)] 25))).grow (HM6.out.alloc _) hk7; have HB7 := Lib.hid hb7; obtain ⟨a7, c7, rfl⟩ := hm7.slice; obtain ⟨_, g2, g3'⟩ := hb7.b3.c; clear hm7 hk7 hb7)
            | (at_builtin; refine wpList_mineU rfl (.tmp 57) (.tmp 62) rfl w _ _ rfl HM2.out _ _ rfl HSRC.out (by have := HLT.out; simp only [List.length_nil]; omega) ?_; intro v6 w6 hm6 hk6 _; rw [List.nil_append] at hm6; have HM6 := Lib.hid hm6; have HB6 := Lib.hid (HB2.out.grow HM2.out hk6); clear hm6 hk6)
            | fail)
          have hm8 := HM7.out
          rw [List.length_append, List.length_singleton] at hm8
          have HF := Lib.hid (OnceAt.set1 HB7.out.b1 HB7.out.b2 HB7.out.b3 (l' := L3.take n1 ++ [Y]) (by rw [uvals_append]; exact hm8))
          clear hm8
          go_roundg (l.length - (i + 1))
          case measure => have := HD.out; omega
          case rel => exact ⟨i + 1, _, HD.out, rfl, by go_num, by rw [HNEW.out, HO4.out]; exact HF.out⟩
        · have q1 : (A == O3 + (Wd : Int) - 1) = false := beqF (by omega)
          have HNEW := Lib.hid (hnew (by omega))
          have HLL := Lib.hid (show L3.length ≤ 1000000 by omega)
          clear hA hla hlt hsn hil hd e2 hi0 hT0 hWd HSL hcond hsame hnew hy hys hix hO hOb hO3 hO4 hL3 hn1 hWi hWle hnx hl3
          go_wp2_with (first | (go_at_call 105; refine (HH.out _).mono ?_; rintro e w1 ⟨rfl, rfl⟩) | fail)
          have k2 : Kept (fun _ => False) w1 ((w1.alloc (.cells #[.int .u64 (x : Int)] 25)).drew) := ((Kept.refl _ w1).alloc _).drew
          have HM2 := Lib.hid (HA.out.own.on k2)
          have HB2 := Lib.hid (HA.out.boxes.on k2)
          have HSX := Lib.hid (src_one_drew (P := Try.prog) (tx := 26) w1 Try.underlying26 (.int .u64 (x : Int)) rfl)
          obtain ⟨⟨_, b1x⟩, _⟩ := (HA.out.boxes.on ((Kept.refl _ w1).alloc (.cells #[.int .u64 (x : Int)] 25))).b1.c
          obtain ⟨⟨_, d1x⟩, _⟩ := (HA.out.boxes.on ((Kept.refl _ w1).alloc (.cells #[.int .u64 (x : Int)] 25))).b3.c
          clear k2
          go_region_law (refine step_mineU (by rfl) (.tmp 69) (.tmp 75) (by rfl) w _ _ (by rfl) HM2.out _ [.int .u64 (x : Int)] (by rfl) HSX.out (by have := HLL.out; simp only [List.length_singleton, uvals_length]; omega) ?_; intro v7 w7 hm7 hk7 _; have HM7 := Lib.hid hm7; have hb7 := HB2.out.grow HM2.out hk7; have HB7 := Lib.hid hb7; obtain ⟨a7, c7, rfl⟩ := hm7.slice; obtain ⟨_, g2, g3'⟩ := hb7.b3.c; clear hm7 hk7 hb7)
          all_goals
            go_wp2
            have hm8 := HM7.out
            rw [List.length_append, List.length_singleton] at hm8
            have HF := Lib.hid (OnceAt.set1 HB7.out.b1 HB7.out.b2 HB7.out.b3 (l' := L3 ++ [x]) (by rw [uvals_append]; exact hm8))
            clear hm8
            go_roundg (l.length - (i + 1))
            case measure => have := HD.out; omega
            case rel => exact ⟨i + 1, _, HD.out, rfl, by go_num, by rw [HNEW.out, HO4.out]; exact HF.out⟩
    · obtain rfl : i = l.length := by omega
      rw [List.take_length] at HA hat
      obtain ⟨⟨d0, d1⟩, _⟩ := hat.b3.c
      obtain ⟨⟨_, _⟩, f0, f1⟩ := hat.b2.c
      obtain ⟨O3, hO⟩ : ∃ O3, O3 = downO o l 1 := ⟨_, rfl⟩
      obtain ⟨L3, hL3⟩ : ∃ L3, L3 = downL o l 1 := ⟨_, rfl⟩
      rw [← hO, ← hL3] at HA
      rw [← hO] at d0
      obtain ⟨a3, q3, rfl⟩ := hat.own.slice
      rw [← hL3] at d1 HA
      have HR := Lib.hid (show O3 = downO o l 1 ∧ L3 = downL o l 1 from ⟨hO, hL3⟩)
      clear hat hO hL3 hd
      go_wp2
      refine side_end (o := O3) (v := .slice a3 (uvals L3).length q3) Try.results81 rfl rfl (HA.out.b2.set _ _) ?_
      exact ⟨O3, L3, _, HR.out, rfl, HA.out.own.setBox HA.out.b2 (by decide) (by omega) _ _⟩
end Go.Proofs.Ytiiibhdohlpodaa

-- J7
namespace Go.Proofs.Ytiiibhdohlpodaa
open Go.RowKit
attribute [local go_sem ↓] Go.wp_at_zero Go.wp_at_succ

theorem trim_right {o : Int} {l : List Nat} (h : sideE o l = 0) : TrimOf o l o l := by
  obtain ⟨h1, h2, h3⟩ := sideE_zero h
  by_cases hz : l.length = 0
  · have hl : l = [] := List.eq_nil_of_length_eq_zero hz
    exact .inl ⟨fun j hj => by omega, h2 hz, hl⟩
  · obtain ⟨a, b, _⟩ := h3 hz
    exact .inr ⟨0, l.length, by omega, Nat.le_refl _, fun j hj => by omega, fun j h1 h2 => by omega, a, b, by simp, by simp⟩
/-- A histogram in a new block, its counts in new slices. -/
structure DownAt (w w0 wr : World) (p : Nat) (R : HistV) (pv nv : Value) : Prop where
  box : HistBox wr p R pv nv
  new : w0.heap.size ≤ p
  mp : Mine w wr 25 pv (uvals R.pl)
  mn : Mine w wr 25 nv (uvals R.nl)
  dis : ∀ k, pv.ownBlock = some k → nv.ownBlock ≠ some k
  kept : Kept (fun _ => False) w0 wr
theorem DownAt.on {w w0 wr w' : World} {p : Nat} {R : HistV} {pv nv : Value} (h : DownAt w w0 wr p R pv nv) (k : Kept (fun _ => False) wr w') : DownAt w w0 w' p R pv nv :=
  ⟨h.box.same k (fun x => x), h.new, h.mp.on k, h.mn.on k, h.dis, h.kept.trans k⟩
/-- What two calls answer is stored. -/
theorem DownAt.made {w w0 wa w3 w4 : World} {p : Nat} {R0 : HistV} {pv0 nv0 pv nv : Value} (sc : Int) (ze : Nat) (po no : Int) (pl nl : List Nat) (hbox : HistBox w4 p R0 pv0 nv0) (hnew : w0.heap.size ≤ p) (hw : Kept (fun _ => False) w w0) (ha : Kept (fun _ => False) w0 wa) (h3 : Mine wa w3 25 pv (uvals pl)) (wb : World) (hb : Kept (fun _ => False) w3 wb) (h4 : Mine wb w4 25 nv (uvals nl)) :
    DownAt w w0 (set6 w4 p (.int .i64 sc) (.int .u64 (ze : Int)) (.int .i64 po) pv (.int .i64 no) nv) p ⟨sc, ze, po, pl, no, nl⟩ pv nv := by
  refine ⟨hbox.set ⟨sc, ze, po, pl, no, nl⟩ pv nv, hnew, ?_, ?_, ?_, ?_⟩
  · exact ((h3.down (hw.trans ha)).on (hb.trans h4.kept)).set6 hbox (Nat.le_trans hw.size hnew) _ _ _ _ _ _
  · exact (h4.down (((hw.trans ha).trans h3.kept).trans hb)).set6 hbox (Nat.le_trans hw.size hnew) _ _ _ _ _ _
  · intro k e1 e2
    have h1 := (ownsRow_lt h3.own e1).1
    have h2 := (ownsRow_lt h4.own e2).2
    have h5 := hb.size
    omega
  · exact (((ha.trans h3.kept).trans hb).trans h4.kept).newer (set6_kept _ _ _ _ _ _ _ _) (fun i e => by omega)
/-- What two calls answer is put into a new variable. -/
theorem DownAt.fresh {w w0 wa w3 w4 : World} {pv nv : Value} (sc : Int) (ze : Nat) (po no : Int) (pl nl : List Nat) (hw : Kept (fun _ => False) w w0) (ha : Kept (fun _ => False) w0 wa) (h3 : Mine wa w3 25 pv (uvals pl)) (h4 : Mine w3 w4 25 nv (uvals nl)) :
    DownAt w w0 (w4.alloc (.cells #[.int .i64 sc, .int .u64 (ze : Int), .int .i64 po, pv, .int .i64 no, nv] 30)) w4.heap.size ⟨sc, ze, po, pl, no, nl⟩ pv nv := by
  have hk := (ha.trans h3.kept).trans h4.kept
  refine ⟨heap_alloc_new w4 _, hk.size, ?_, ?_, ?_, hk.alloc _⟩
  · exact ((h3.down (hw.trans ha)).on h4.kept).alloc _
  · exact (h4.down ((hw.trans ha).trans h3.kept)).alloc _
  · intro k e1 e2
    have h1 := (ownsRow_lt h3.own e1).1
    have h2 := (ownsRow_lt h4.own e2).2
    omega
theorem DownAt.slices {w w0 wr : World} {p : Nat} {R : HistV} {pv nv : Value} (h : DownAt w w0 wr p R pv nv) : (∃ a c, pv = .slice a R.pl.length c) ∧ ∃ a c, nv = .slice a R.nl.length c := by
  obtain ⟨a, c, e⟩ := h.mp.slice
  obtain ⟨a', c', e'⟩ := h.mn.slice
  rw [uvals_length] at e e'
  exact ⟨⟨a, c, e⟩, a', c', e'⟩
theorem hist_alloc (w : World) : HistBox (w.alloc (.cells #[.int .i64 0, .int .u64 0, .int .i64 0, .slice none 0 0, .int .i64 0, .slice none 0 0] 30)) w.heap.size zeroH (.slice none 0 0) (.slice none 0 0) := heap_alloc_new w _
theorem Kept.step6 {w0 w : World} (h : Kept (fun _ => False) w0 w) (p : Nat) (a b c d e f : Value) (hp : w0.heap.size ≤ p) : Kept (fun _ => False) w0 (set6 w p a b c d e f) := h.newer (set6_kept _ _ _ _ _ _ _ _) (fun i e => by omega)

set_option maxHeartbeats 4000000 in
set_option maxRecDepth 100000 in
theorem refDown_ok (sc : Int) (ze : Nat) (po : Int) (pl : List Nat) (no : Int) (nl : List Nat) (b : Nat) (ao bo : Option Addr) (c d : Nat) (w w0 : World) (k0 : Kept (fun _ => False) w w0)
    (hw0 : w0 = (w.alloc (.cells #[.int .i64 sc, .int .u64 (ze : Int), .int .i64 po, .slice ao pl.length c, .int .i64 no, .slice bo nl.length d] 30)).alloc (.cells #[.int .i64 0, .int .u64 0, .int .i64 0, .slice none 0 0, .int .i64 0, .slice none 0 0] 30))
    (bx : HistBox w0 w.heap.size ⟨sc, ze, po, pl, no, nl⟩ (.slice ao pl.length c) (.slice bo nl.length d)) (rx : HistBox w0 (w.heap.size + 1) zeroH (.slice none 0 0) (.slice none 0 0))
    (hE : Calls Try.prog 79 #[.agg #[.int .i64 sc, .int .u64 (ze : Int), .int .i64 po, .slice ao pl.length c, .int .i64 no, .slice bo nl.length d]] w0 fun e w' => e = .returned (.int .i64 0) ∧ Kept (fun _ => False) w0 w')
    (HT1 : Hid (∀ w', Kept (fun _ => False) w0 w' → Calls Try.prog 80 #[.agg #[.int .i64 po, .slice ao pl.length c]] w' (SideOut w' fun o' l' => o' = po ∧ l' = pl)))
    (HT2 : Hid (∀ w', Kept (fun _ => False) w0 w' → Calls Try.prog 80 #[.agg #[.int .i64 no, .slice bo nl.length d]] w' (SideOut w' fun o' l' => o' = no ∧ l' = nl)))
    (HN1 : Hid (∀ (k : Nat) w' v, k ≤ 40 → SlAt w' v (uvals (downL po pl k)) → Calls Try.prog 81 #[.agg #[.int .i64 (downO po pl k), v]] w' (SideOut w' fun o' l' => o' = downO po pl (k + 1) ∧ l' = downL po pl (k + 1))))
    (HN2 : Hid (∀ (k : Nat) w' v, k ≤ 40 → SlAt w' v (uvals (downL no nl k)) → Calls Try.prog 81 #[.agg #[.int .i64 (downO no nl k), v]] w' (SideOut w' fun o' l' => o' = downO no nl (k + 1) ∧ l' = downL no nl (k + 1))))
    (HZ : Hid (downO po pl 0 = po ∧ downL po pl 0 = pl ∧ downO no nl 0 = no ∧ downL no nl 0 = nl))
    (hb : (b : Int) ≤ sc + 10) (hsc : -10 ≤ sc ∧ sc ≤ 20) (R : HistV) (hR : R = ⟨sc - (b : Int), ze, downO po pl b, downL po pl b, downO no nl b, downL no nl b⟩) :
    Calls Try.prog 57 #[.agg #[.int .i64 sc, .int .u64 (ze : Int), .int .i64 po, .slice ao pl.length c, .int .i64 no, .slice bo nl.length d], .int .i64 b] w (HistOut w R 0) := by
  have HK0 := Lib.hid k0
  have HBX := Lib.hid bx
  have HRX := Lib.hid rx
  have HW0 := Lib.hid hw0
  rw [hw0] at hE
  have HC := Lib.hid hE
  have q : ((0 : Int) != 0) = false := rfl
  have b1 : ¬ (b : Int) < 0 := by omega
  have sc1 : IntKind.i64.wrap (sc - -10) = sc + 10 := by rw [IntWalk.i64_in _ ⟨by omega, by omega⟩]; omega
  have sc2 : sc - -10 = sc + 10 := by omega
  have sc3 : IntKind.i64.wrap (sc + 10) = sc + 10 := IntWalk.i64_in _ ⟨by omega, by omega⟩
  have hb2 : ¬ sc + 10 < (b : Int) := by omega
  have HR := Lib.hid hR
  clear k0 bx rx hw0 hE hR
  go_enter Try.func57, Try.ntmps57
  go_wp2_with (go_at_call 79; refine HC.out.mono ?_; rintro e w1 ⟨rfl, k1⟩; rw [← HW0.out] at k1; have K1 := Lib.hid k1; obtain ⟨c0, c1, c2, c3, c4, c5⟩ := (HBX.out.same k1 (fun x => x)).c; clear k1)
  have HKD := Lib.hid (show Kept (fun _ => False) w0 w1.drew from K1.out.drew)
  have HC1 := Lib.hid (HBX.out.same HKD.out (fun x => x)).c
  have hka : Kept (fun _ => False) w0 ((w1.alloc (.cells #[.int .i64 0, .int .u64 0, .int .i64 0, .slice none 0 0, .int .i64 0, .slice none 0 0] 30)).drew) := (K1.out.alloc _).drew
  have HKA := Lib.hid hka
  have HPA := Lib.hid ((hist_alloc w1).same ((Kept.refl (fun _ => False) _).drew) (fun x => x))
  have HCA := Lib.hid (HBX.out.same HKA.out (fun x => x)).c
  clear hka
  go_cut [7] (fun s7 wc => ∃ p pv nv, s7 = .pointer (some ⟨p, 0, none⟩) ∧ DownAt w w0 wc p ⟨sc, ze, po, pl, no, nl⟩ pv nv)
  case first =>
    go_region_held3 (fun w' => w'.cell? ⟨w.heap.size, 0, none⟩ = some (.int .i64 sc) ∧ w'.cell? ⟨w.heap.size, 1, none⟩ = some (.int .u64 (ze : Int)) ∧ w'.cell? ⟨w.heap.size, 2, none⟩ = some (.int .i64 po) ∧ w'.cell? ⟨w.heap.size, 3, none⟩ = some (.slice ao pl.length c) ∧ w'.cell? ⟨w.heap.size, 4, none⟩ = some (.int .i64 no) ∧ w'.cell? ⟨w.heap.size, 5, none⟩ = some (.slice bo nl.length d)) (first | (with_reducible exact HC1.out) | (with_reducible exact HB3.out) | (with_reducible exact HB4.out) | (with_reducible exact HCA.out) | (have _tok := HP4.out; exact (HBX.out.same ((Go.Proofs.Ytiiibhdohlpodaa.Kept.step6 HK4.out (w1.heap.size) _ _ _ _ _ _ (by have := K1.out.size; omega))) (fun x => x)).c) | (have _tok := HP4b.out; exact (HBX.out.same ((Go.Proofs.Ytiiibhdohlpodaa.Kept.step6 HK4.out (w3.heap.size) _ _ _ _ _ _ HK3.out.size)) (fun x => x)).c) | (exact (HBX.out.same (HK4.out.alloc _) (fun x => x)).c) | (exact (HBX.out.same (HK3.out.alloc _) (fun x => x)).c) | (trace "S"; trace_state; fail))
      (first
        | (have _tok := HP3.out; go_at_call 80; refine (HT2.out w3 HK3.out).mono ?_; rintro e w4 ⟨o4, l4, v4, hh4, rfl, hm4⟩; have HH4 := Lib.hid hh4; clear hh4; obtain ⟨a4, q4, rfl⟩ := hm4.slice; have HM4 := Lib.hid hm4; have HK4 := Lib.hid (HK3.out.trans hm4.kept); have HB4 := Lib.hid (HBX.out.same HK4.out (fun x => x)).c; have hp4 := HP3.out.same hm4.kept (fun x => x); have HP4 := Lib.hid hp4; obtain ⟨r0, r1, r2, r3, r4, r5⟩ := hp4.c; obtain ⟨f0, f1, f2, f3, f4, f5⟩ := hp4.f; clear hm4 hp4)
        | (have _tok := HK3.out; go_at_call 80; refine (HT2.out w3 HK3.out).mono ?_; rintro e w4 ⟨o4, l4, v4, hh4, rfl, hm4⟩; have HH4 := Lib.hid hh4; clear hh4; obtain ⟨a4, q4, rfl⟩ := hm4.slice; have HM4 := Lib.hid hm4; have HK4 := Lib.hid (HK3.out.trans hm4.kept); have HB4 := Lib.hid (HBX.out.same HK4.out (fun x => x)).c; clear hm4)
        | (have _tok := HK3.out; go_at_call 80; refine (HT2.out (w3.alloc (.cells #[.int .i64 0, .int .u64 0, .int .i64 0, .slice none 0 0, .int .i64 0, .slice none 0 0] 30)) (HK3.out.alloc _)).mono ?_; rintro e w4 ⟨o4, l4, v4, hh4, rfl, hm4⟩; have HH4 := Lib.hid hh4; clear hh4; obtain ⟨a4, q4, rfl⟩ := hm4.slice; have HM4 := Lib.hid hm4; have HK4 := Lib.hid ((HK3.out.alloc _).trans hm4.kept); have HB4 := Lib.hid (HBX.out.same HK4.out (fun x => x)).c; have hp4 := HistBox.same (hist_alloc w3) hm4.kept (fun x => x); have HP4b := Lib.hid hp4; obtain ⟨r0, r1, r2, r3, r4, r5⟩ := hp4.c; obtain ⟨f0, f1, f2, f3, f4, f5⟩ := hp4.f; clear hm4 hp4)
        | (go_at_call 80; refine (HT1.out w1.drew HKD.out).mono ?_; rintro e w3 ⟨o3, l3, v3, hh3, rfl, hm3⟩; have HH3 := Lib.hid hh3; clear hh3; obtain ⟨a3, q3, rfl⟩ := hm3.slice; have HM3 := Lib.hid hm3; have HK3 := Lib.hid (HKD.out.trans hm3.kept); have HB3 := Lib.hid (HBX.out.same HK3.out (fun x => x)).c; clear hm3)
        | (go_at_call 80; refine (HT1.out ((w1.alloc (.cells #[.int .i64 0, .int .u64 0, .int .i64 0, .slice none 0 0, .int .i64 0, .slice none 0 0] 30)).drew) HKA.out).mono ?_; rintro e w3 ⟨o3, l3, v3, hh3, rfl, hm3⟩; have HH3 := Lib.hid hh3; clear hh3; obtain ⟨a3, q3, rfl⟩ := hm3.slice; have HM3 := Lib.hid hm3; have HK3 := Lib.hid (HKA.out.trans hm3.kept); have HB3 := Lib.hid (HBX.out.same HK3.out (fun x => x)).c; have hp3 := HPA.out.same hm3.kept (fun x => x); have HP3 := Lib.hid hp3; clear hm3 hp3)
        | (go_at_call 80; trace "NO ARM"; trace_state; fail))
    all_goals
      obtain ⟨e1, e2⟩ := HH3.out
      obtain ⟨e3, e4⟩ := HH4.out
      subst e1 e2 e3 e4
      go_wp2
      go_meet
      case rel =>
        first
          | (have _tok := HP4.out; exact ⟨_, _, _, rfl, DownAt.made sc ze _ _ _ _ HP4.out K1.out.size HK0.out HKA.out HM3.out w3 (Kept.refl _ _) HM4.out⟩)
          | (have _tok := HP4b.out; exact ⟨_, _, _, rfl, DownAt.made sc ze _ _ _ _ HP4b.out HK3.out.size HK0.out HKD.out HM3.out (w3.alloc (.cells #[.int .i64 0, .int .u64 0, .int .i64 0, .slice none 0 0, .int .i64 0, .slice none 0 0] 30)) ((Kept.refl _ _).alloc _) HM4.out⟩)
          | exact ⟨_, _, _, rfl, DownAt.fresh sc ze _ _ _ _ HK0.out HKD.out HM3.out HM4.out⟩
  case rest =>
    obtain ⟨p, pv, nv, rfl, hat⟩ := hcut
    have HAT := Lib.hid hat
    clear hat HT1 HT2 HC1 HCA HPA HKA HKD K1 HC c0 c1 c2 c3 c4 c5
    go_wp2
    go_loopg [8, 36, 37, 38, 39, 40, 41, 42, 43, 44, 45, 46, 47, 48, 49, 50, 51, 52] b (fun g' s8 s36 s37 s38 s39 s40 s41 s42 s43 s44 s45 s46 s47 s48 s49 s50 s51 s52 wr => ∃ (k : Nat) (pv nv : Value), k ≤ b ∧ g' = b - k ∧ s8 = .int .i64 k ∧ DownAt w w0 wr p ⟨sc - (k : Int), ze, downO po pl k, downL po pl k, downO no nl k, downL no nl k⟩ pv nv)
    case atStart => exact ⟨0, _, _, Nat.zero_le _, rfl, rfl, by rw [HZ.out.1, HZ.out.2.1, HZ.out.2.2.1, HZ.out.2.2.2]; simpa using HAT.out⟩
    case round =>
      obtain ⟨k, pv, nv, hkb, rfl, rfl, hat⟩ := hrel
      obtain ⟨⟨a1, q1, rfl⟩, a2, q2, rfl⟩ := hat.slices
      by_cases hd : k < b
      · have hdi : (k : Int) < (b : Int) := by omega
        have HD := Lib.hid hd
        have hx1 := fun w' => HN1.out k w' (.slice a1 (downL po pl k).length q1) (by omega)
        have hx2 := fun w' => HN2.out k w' (.slice a2 (downL no nl k).length q2) (by omega)
        have s1 : IntKind.i64.wrap (sc - (k : Int) - 1) = sc - (k : Int) - 1 := IntWalk.i64_in _ ⟨by omega, by omega⟩
        simp only at hat
        obtain ⟨O1, hO1⟩ : ∃ O, O = downO po pl k := ⟨_, rfl⟩
        obtain ⟨O2, hO2⟩ : ∃ O, O = downO no nl k := ⟨_, rfl⟩
        obtain ⟨L1, hL1⟩ : ∃ L, L = downL po pl k := ⟨_, rfl⟩
        obtain ⟨L2, hL2⟩ : ∃ L, L = downL no nl k := ⟨_, rfl⟩
        rw [← hO1, ← hO2, ← hL1, ← hL2] at hat
        rw [← hO1, ← hL1] at hx1
        rw [← hO2, ← hL2] at hx2
        obtain ⟨n1, hn1⟩ : ∃ n, n = L1.length := ⟨_, rfl⟩
        obtain ⟨n2, hn2⟩ : ∃ n, n = L2.length := ⟨_, rfl⟩
        rw [← hn1, ← hn2] at hat
        rw [← hn1] at hx1
        rw [← hn2] at hx2
        have HX1 := Lib.hid hx1
        have HX2 := Lib.hid hx2
        have HDD := Lib.hid (hat.on (Kept.refl _ wr).drew)
        have HS := Lib.hid HDD.out.box.c
        clear hx1 hx2 hat hO1 hO2 hL1 hL2 hn1 hn2 hd
        go_wp2
        refine AnyBut.start (S := fun w' => w'.cell? ⟨p, 0, none⟩ = some (.int .i64 (sc - (k : Int))) ∧ w'.cell? ⟨p, 1, none⟩ = some (.int .u64 (ze : Int)) ∧ w'.cell? ⟨p, 2, none⟩ = some (.int .i64 O1) ∧ w'.cell? ⟨p, 3, none⟩ = some (.slice a1 n1 q1) ∧ w'.cell? ⟨p, 4, none⟩ = some (.int .i64 O2) ∧ w'.cell? ⟨p, 5, none⟩ = some (.slice a2 n2 q2)) (k := 12) (by kernel_rfl) ?_
        refine AnyBut.take (i := 0) (v := ?v0) rfl (by kernel_rfl) (by kernel_rfl) (by kernel_rfl) (by kernel_rfl) (fun _ _ _ h => h) (HS.out) (Or.inl ⟨by rfl, ?hy0⟩) ?r0
        case hy0 =>
          intro w hSw
          try dsimp only at hSw
          go_simp
          try with_reducible rfl
        try simp only [Act.put, List.setIfInBounds_toArray]
        refine AnyBut.take (i := 1) (v := ?v1) rfl (by kernel_rfl) (by kernel_rfl) (by kernel_rfl) (by kernel_rfl) (fun _ _ _ h => h) (HS.out) (Or.inl ⟨by rfl, ?hy1⟩) ?r1
        case hy1 =>
          intro w hSw
          try dsimp only at hSw
          go_simp
          try with_reducible rfl
        try simp only [Act.put]
        refine AnyBut.take (i := 2) (v := ?v2) rfl (by kernel_rfl) (by kernel_rfl) (by kernel_rfl) (by kernel_rfl) (fun _ _ _ h => h) (HS.out) (Or.inl ⟨by rfl, ?hy2⟩) ?r2
        case hy2 =>
          intro w hSw
          try dsimp only at hSw
          go_simp
          try with_reducible rfl
        try simp only [Act.put]
        refine AnyBut.take (i := 3) (v := ?v3) rfl (by kernel_rfl) (by kernel_rfl) (by kernel_rfl) (by kernel_rfl) (fun _ _ _ h => h) (HS.out) (Or.inl ⟨by rfl, ?hy3⟩) ?r3
        case hy3 =>
          intro w hSw
          try dsimp only at hSw
          go_simp
          try with_reducible rfl
        try simp only [Act.put]
        refine AnyBut.take (i := 4) (v := ?v4) rfl (by kernel_rfl) (by kernel_rfl) (by kernel_rfl) (by kernel_rfl) (fun _ _ _ h => h) (HS.out) (Or.inl ⟨by rfl, ?hy4⟩) ?r4
        case hy4 =>
          intro w hSw
          try dsimp only at hSw
          go_simp
          try with_reducible rfl
        try simp only [Act.put]
        refine AnyBut.take (i := 5) (v := ?v5) rfl (by kernel_rfl) (by kernel_rfl) (by kernel_rfl) (by kernel_rfl) (fun _ _ _ h => h) (HS.out) (Or.inl ⟨by rfl, ?hy5⟩) ?r5
        case hy5 =>
          intro w hSw
          try dsimp only at hSw
          go_simp
          try with_reducible rfl
        try simp only [Act.put]
        refine AnyBut.take (i := 6) (v := ?v6) rfl (by kernel_rfl) (by kernel_rfl) (by kernel_rfl) (by kernel_rfl) (fun _ _ _ h => h) (HS.out) (Or.inl ⟨by rfl, ?hy6⟩) ?r6
        case hy6 =>
          intro w hSw
          try dsimp only at hSw
          go_simp
          try with_reducible rfl
        try simp only [Act.put]
        refine AnyBut.take (i := 8) (v := ?v8) rfl (by kernel_rfl) (by kernel_rfl) (by kernel_rfl) (by kernel_rfl) (fun _ _ _ h => h) (HS.out) (Or.inl ⟨by rfl, ?hy8⟩) ?r8
        case hy8 =>
          intro w hSw
          try dsimp only at hSw
          go_simp
          try with_reducible rfl
        try simp only [Act.put]
        refine AnyBut.take (i := 9) (v := ?v9) rfl (by kernel_rfl) (by kernel_rfl) (by kernel_rfl) (by kernel_rfl) (fun _ _ _ h => h) (HS.out) (Or.inl ⟨by rfl, ?hy9⟩) ?r9
        case hy9 =>
          intro w hSw
          try dsimp only at hSw
          go_simp
          try with_reducible rfl
        try simp only [Act.put]
        refine AnyBut.one (i := 7) (by kernel_rfl) rfl (fun K hK => ?_)
        go_simp
        go_wp2_with (go_at_call 81; refine (HX1.out _ HDD.out.mp.at_).mono ?_; rintro e w3 ⟨o3, l3, v3, hh3, rfl, hm3⟩; have HH3 := Lib.hid hh3; clear hh3; obtain ⟨a3, q3, rfl⟩ := hm3.slice; have HM3 := Lib.hid hm3; have HD3 := Lib.hid (HDD.out.on hm3.kept); have HS3 := Lib.hid HD3.out.box.c; clear hm3)
        refine hK.out _ _ (HS3.out) ?_
        clear hK K
        try simp only [Act.put, List.setIfInBounds_toArray, List.set_cons_zero, List.set_cons_succ]
        refine AnyBut.one (i := 10) (by kernel_rfl) rfl (fun K hK => ?_)
        go_simp
        go_wp2_with (go_at_call 81; refine (HX2.out _ HD3.out.mn.at_).mono ?_; rintro e w4 ⟨o4, l4, v4, hh4, rfl, hm4⟩; have HH4 := Lib.hid hh4; clear hh4; obtain ⟨a4, q4, rfl⟩ := hm4.slice; have HM4 := Lib.hid hm4; have HD4 := Lib.hid (HD3.out.on hm4.kept); have HS4 := Lib.hid HD4.out.box.c; have hf4 := HD4.out.box.f; obtain ⟨f0, f1, f2, f3, f4, f5⟩ := hf4; obtain ⟨r0, r1, r2, r3, r4, r5⟩ := HS4.out; clear hm4)
        refine hK.out _ _ (HS4.out) ?_
        clear hK K
        try simp only [Act.put, List.setIfInBounds_toArray, List.set_cons_zero, List.set_cons_succ]
        refine AnyBut.take (i := 11) (v := ?v11) rfl (by kernel_rfl) (by kernel_rfl) (by kernel_rfl) (by kernel_rfl) (fun _ _ _ h => h) (HS4.out) (Or.inl ⟨by rfl, ?hy11⟩) ?r11
        case hy11 =>
          intro w hSw
          try dsimp only at hSw
          go_simp
          try with_reducible rfl
        try simp only [Act.put, List.setIfInBounds_toArray]
        refine AnyBut.last (by kernel_rfl) rfl (by kernel_rfl) (fun K hK => ?_)
        go_simp
        refine hK.out _ _ ?_
        clear hK K
        try simp only [Act.put, List.setIfInBounds_toArray, List.set_cons_zero, List.set_cons_succ]
        go_wp2
        obtain ⟨e1, e2⟩ := HH3.out
        obtain ⟨e3, e4⟩ := HH4.out
        have HF := Lib.hid (DownAt.made (sc - (k : Int) - 1) ze o3 o4 l3 l4 HD4.out.box HD4.out.new HK0.out HDD.out.kept HM3.out w3 (Kept.refl _ _) HM4.out)
        have HE := Lib.hid (show (⟨sc - (k : Int) - 1, ze, o3, l3, o4, l4⟩ : HistV) = ⟨sc - ((k + 1 : Nat) : Int), ze, downO po pl (k + 1), downL po pl (k + 1), downO no nl (k + 1), downL no nl (k + 1)⟩ by rw [e1, e2, e3, e4, show sc - (k : Int) - 1 = sc - ((k + 1 : Nat) : Int) by omega])
        clear e1 e2 e3 e4
        go_roundg (b - (k + 1))
        case measure => have := HD.out; omega
        case rel => exact ⟨k + 1, _, _, HD.out, rfl, by go_num, by rw [← HE.out]; exact HF.out⟩
      · obtain rfl : k = b := by omega
        simp only at hat
        obtain ⟨O1, hO1⟩ : ∃ O, O = downO po pl k := ⟨_, rfl⟩
        obtain ⟨O2, hO2⟩ : ∃ O, O = downO no nl k := ⟨_, rfl⟩
        obtain ⟨L1, hL1⟩ : ∃ L, L = downL po pl k := ⟨_, rfl⟩
        obtain ⟨L2, hL2⟩ : ∃ L, L = downL no nl k := ⟨_, rfl⟩
        rw [← hO1, ← hO2, ← hL1, ← hL2] at hat HR
        obtain ⟨n1, hn1⟩ : ∃ n, n = L1.length := ⟨_, rfl⟩
        obtain ⟨n2, hn2⟩ : ∃ n, n = L2.length := ⟨_, rfl⟩
        rw [← hn1, ← hn2] at hat
        obtain ⟨r0, r1, r2, r3, r4, r5⟩ := (HRX.out.same hat.kept (fun x => x)).c
        obtain ⟨f0, f1, f2, f3, f4, f5⟩ := (HRX.out.same hat.kept (fun x => x)).f
        have HB := Lib.hid (HRX.out.same hat.kept (fun x => x))
        obtain ⟨c0, c1, c2, c3, c4, c5⟩ := hat.box.c
        have HA := Lib.hid hat
        clear hat hd hO1 hO2 hL1 hL2 hn1 hn2
        go_wp2
        refine hist_end (h := R) (pv := .slice a1 n1 q1) (nv := .slice a2 n2 q2) Try.results57 rfl rfl rfl (by rw [HR.out]; exact HB.out.set ⟨sc - (k : Int), ze, O1, L1, O2, L2⟩ _ _) ?_
        refine ⟨_, _, rfl, ?_, ?_, HA.out.dis⟩
        · rw [HR.out]; exact HA.out.mp.set6 HB.out (by omega) _ _ _ _ _ _
        · rw [HR.out]; exact HA.out.mn.set6 HB.out (by omega) _ _ _ _ _ _
end Go.Proofs.Ytiiibhdohlpodaa

-- J8
namespace Go.Proofs.Ytiiibhdohlpodaa
open Go.RowKit
attribute [local go_sem ↓] Go.wp_at_zero Go.wp_at_succ

theorem once_next (o : Int) (l : List Nat) (ho : -1000000000000 ≤ o ∧ o ≤ 1000000000000) (hl : l.length ≤ 1000000) (hs : l.sum < 18446744073709551616) (k : Nat) (w' : World) (v : Value) (_ : k ≤ 40) (hv : SlAt w' v (uvals (downL o l k))) :
    Calls Try.prog 81 #[.agg #[.int .i64 (downO o l k), v]] w' (SideOut w' fun o' l' => o' = downO o l (k + 1) ∧ l' = downL o l (k + 1)) := by
  have hb : -1000000000000 ≤ downO o l k ∧ downO o l k ≤ 1000000000000 := by
    unfold downO
    split
    · omega
    · exact ediv_in o k 1000000000000 (by omega) (by omega) (by omega)
  have := refOnce_any (downO o l k) (downL o l k) v w' hv hb (by rw [downL_length]; exact Nat.le_trans (dWidth_le _ _ _) hl) (by rw [downL_sum]; exact hs)
  rwa [downO_two, downL_two'] at this

set_option maxHeartbeats 4000000 in
set_option maxRecDepth 100000 in
theorem refDown_any (h : HistV) (by_ : Int) (pv nv : Value) (w : World) (ha : HistAt w h pv nv) (hok : h.ok) (hp : h.pl.length ≤ 1000000) (hn : h.nl.length ≤ 1000000) (hby : I64 by_) (hc1 : ∀ a n c, pv = .slice a n c → n ≤ c) (hc2 : ∀ a n c, nv = .slice a n c → n ≤ c) :
    Calls Try.prog 57 #[histV h pv nv, .int .i64 by_] w (HistOut w (downR h by_) (downE h by_)) := by
  obtain ⟨⟨ao, c, rfl⟩, bo, d, rfl⟩ := ha.sl
  obtain ⟨w0, hw0⟩ : ∃ w0, w0 = (w.alloc (.cells #[.int .i64 h.sc, .int .u64 (h.ze : Int), .int .i64 h.po, .slice ao h.pl.length c, .int .i64 h.no, .slice bo h.nl.length d] 30)).alloc (.cells #[.int .i64 0, .int .u64 0, .int .i64 0, .slice none 0 0, .int .i64 0, .slice none 0 0] 30) := ⟨_, rfl⟩
  have k0 : Kept (fun _ => False) w w0 := by rw [hw0]; exact ((Kept.refl _ w).alloc _).alloc _
  have bx : HistBox w0 w.heap.size h (.slice ao h.pl.length c) (.slice bo h.nl.length d) := by
    rw [hw0]; exact ((Kept.refl (fun _ => False) _).alloc _).same (heap_alloc_new w _) (fun x => x)
  have rx : HistBox w0 (w.heap.size + 1) zeroH (.slice none 0 0) (.slice none 0 0) := by
    rw [hw0]
    have := heap_alloc_new (w.alloc (.cells #[.int .i64 h.sc, .int .u64 (h.ze : Int), .int .i64 h.po, .slice ao h.pl.length c, .int .i64 h.no, .slice bo h.nl.length d] 30)) (.cells #[.int .i64 0, .int .u64 0, .int .i64 0, .slice none 0 0, .int .i64 0, .slice none 0 0] 30)
    have e : (w.alloc (.cells #[.int .i64 h.sc, .int .u64 (h.ze : Int), .int .i64 h.po, .slice ao h.pl.length c, .int .i64 h.no, .slice bo h.nl.length d] 30)).heap.size = w.heap.size + 1 := by simp
    rw [e] at this
    exact this
  have HC := Lib.hid (refCheck_any h _ _ w0 (ha.on k0) hok hp hn)
  have HA := Lib.hid fun w' (k : Kept (fun _ => False) w0 w') => ha.on (k0.trans k)
  have HK0 := Lib.hid k0
  have HBX := Lib.hid bx
  have HRX := Lib.hid rx
  have HW0 := Lib.hid hw0
  have hdE : downE h by_ = if h.err ≠ 0 then h.err else if by_ < 0 ∨ h.sc + 10 < by_ then 1 else 0 := rfl
  have hLT := err_light (h := h)
  obtain ⟨E, hE⟩ : ∃ E, E = h.err := ⟨_, rfl⟩
  rw [← hE] at HC hdE hLT
  rw [hw0] at HC
  have HC := Lib.hid HC.out
  have HC1 := Lib.hid hc1
  have HC2 := Lib.hid hc2
  clear ha k0 bx rx hw0 hc1 hc2
  by_cases hE0 : E = 0
  · have q : ((E : Int) != 0) = false := bneF (by omega)
    obtain ⟨⟨l1, l2⟩, l3, l4, l5⟩ := hLT hE0
    rw [if_neg (by omega)] at hdE
    have hp2 := side_range l3
    have hn2 := side_range l4
    obtain ⟨t1, t2⟩ := total_parts l5
    have sc1 : IntKind.i64.wrap (h.sc - -10) = h.sc + 10 := by rw [IntWalk.i64_in _ ⟨by omega, by omega⟩]; omega
    have sc2 : h.sc - -10 = h.sc + 10 := by omega
    have sc3 : IntKind.i64.wrap (h.sc + 10) = h.sc + 10 := IntWalk.i64_in _ ⟨by omega, by omega⟩
    have hcase : by_ < 0 ∨ (¬ by_ < 0 ∧ h.sc + 10 < by_) ∨ (¬ by_ < 0 ∧ ¬ h.sc + 10 < by_) := by omega
    rcases hcase with b1 | ⟨b1, b2⟩ | ⟨b1, b2⟩
    · have hd : downE h by_ = 1 := by rw [hdE, if_pos (.inl b1)]
      have hr : downR h by_ = zeroH := by unfold downR; rw [hd, if_neg (by omega)]
      rw [hd, hr]
      clear hE hd hr hdE hLT hE0
      obtain ⟨sc, ze, po, pl, no, nl⟩ := h
      unfold histV at HC ⊢
      go_enter Try.func57, Try.ntmps57
      go_wp2_with (go_at_call 79; refine HC.out.mono ?_; rintro e w1 ⟨rfl, k1⟩; rw [← HW0.out] at k1; have K1 := Lib.hid (HK0.out.trans k1); have rx1 := HRX.out.same k1 (fun x => x); have RX1 := Lib.hid rx1; obtain ⟨r0, r1, r2, r3, r4, r5⟩ := rx1.c; obtain ⟨f0, f1, f2, f3, f4, f5⟩ := rx1.f; clear k1 rx1)
      refine hist_end (h := zeroH) Try.results57 rfl rfl rfl (RX1.out.set zeroH (.slice none 0 0) (.slice none 0 0)) ?_
      exact zeroOut (E := 1) (K1.out.newer (set6_kept _ _ _ _ _ _ _ _) (fun i e => by omega))
    · have hd : downE h by_ = 1 := by rw [hdE, if_pos (.inr b2)]
      have hr : downR h by_ = zeroH := by unfold downR; rw [hd, if_neg (by omega)]
      rw [hd, hr]
      clear hE hd hr hdE hLT hE0
      obtain ⟨sc, ze, po, pl, no, nl⟩ := h
      unfold histV at HC ⊢
      simp only at b2 sc1 sc2 sc3
      go_enter Try.func57, Try.ntmps57
      go_wp2_with (go_at_call 79; refine HC.out.mono ?_; rintro e w1 ⟨rfl, k1⟩; rw [← HW0.out] at k1; have K1 := Lib.hid (HK0.out.trans k1); obtain ⟨c0, _⟩ := (HBX.out.same k1 (fun x => x)).c; have rx1 := HRX.out.same k1 (fun x => x); have RX1 := Lib.hid rx1; obtain ⟨r0, r1, r2, r3, r4, r5⟩ := rx1.c; obtain ⟨f0, f1, f2, f3, f4, f5⟩ := rx1.f; clear k1 rx1)
      refine hist_end (h := zeroH) Try.results57 rfl rfl rfl (RX1.out.set zeroH (.slice none 0 0) (.slice none 0 0)) ?_
      exact zeroOut (E := 1) (K1.out.newer (set6_kept _ _ _ _ _ _ _ _) (fun i e => by omega))
    · have hd : downE h by_ = 0 := by rw [hdE, if_neg (by omega)]
      obtain ⟨b, rfl⟩ : ∃ b : Nat, by_ = b := ⟨by_.toNat, by omega⟩
      have hr : downR h b = downH h b := by unfold downR; rw [hd, if_pos rfl, Int.toNat_natCast]
      rw [hd, hr]
      have HT1 := Lib.hid fun w' (k : Kept (fun _ => False) w0 w') => (refTrim_any h.po h.pl _ w' (HA.out _ k).p (HC1.out) ⟨by omega, by omega⟩ hp).mono fun e w2 ⟨o', l', v', ht, r⟩ => (⟨o', l', v', TrimOf.uniq ht (trim_right l3), r⟩ : SideOut w' (fun o' l' => o' = h.po ∧ l' = h.pl) e w2)
      have HT2 := Lib.hid fun w' (k : Kept (fun _ => False) w0 w') => (refTrim_any h.no h.nl _ w' (HA.out _ k).n (HC2.out) ⟨by omega, by omega⟩ hn).mono fun e w2 ⟨o', l', v', ht, r⟩ => (⟨o', l', v', TrimOf.uniq ht (trim_right l4), r⟩ : SideOut w' (fun o' l' => o' = h.no ∧ l' = h.nl) e w2)
      have HN1 := Lib.hid (once_next h.po h.pl hp2.1 hp t1)
      have HN2 := Lib.hid (once_next h.no h.nl hn2.1 hn t2)
      have HZ := Lib.hid (show downO h.po h.pl 0 = h.po ∧ downL h.po h.pl 0 = h.pl ∧ downO h.no h.nl 0 = h.no ∧ downL h.no h.nl 0 = h.nl from ⟨downO_by0 _ _ (sideE_zero l3).2.1, downL_by0 _ _, downO_by0 _ _ (sideE_zero l4).2.1, downL_by0 _ _⟩)
      have hC := HC.out
      rw [← HW0.out, hE0] at hC
      obtain ⟨sc, ze, po, pl, no, nl⟩ := h
      exact refDown_ok sc ze po pl no nl b ao bo c d w w0 HK0.out HW0.out HBX.out HRX.out hC HT1 HT2 HN1 HN2 HZ (by simp only at b2; omega) ⟨by simp only at l1; omega, by simp only at l2; omega⟩ _ rfl
  · have q : ((E : Int) != 0) = true := bneT (by omega)
    have hd : downE h by_ = E := by rw [hdE, if_pos hE0]
    have hr : downR h by_ = zeroH := by unfold downR; rw [hd, if_neg hE0]
    rw [hd, hr]
    clear hE hd hr hdE hLT hE0
    obtain ⟨sc, ze, po, pl, no, nl⟩ := h
    unfold histV at HC ⊢
    go_enter Try.func57, Try.ntmps57
    go_wp2_with (go_at_call 79; refine HC.out.mono ?_; rintro e w1 ⟨rfl, k1⟩; rw [← HW0.out] at k1; have K1 := Lib.hid (HK0.out.trans k1); have rx1 := HRX.out.same k1 (fun x => x); have RX1 := Lib.hid rx1; obtain ⟨r0, r1, r2, r3, r4, r5⟩ := rx1.c; obtain ⟨f0, f1, f2, f3, f4, f5⟩ := rx1.f; clear k1 rx1)
    refine hist_end (h := zeroH) Try.results57 rfl rfl rfl (RX1.out.set zeroH (.slice none 0 0) (.slice none 0 0)) ?_
    exact zeroOut (K1.out.newer (set6_kept _ _ _ _ _ _ _ _) (fun i e => by omega))
end Go.Proofs.Ytiiibhdohlpodaa

-- J9
namespace Go.Proofs.Ytiiibhdohlpodaa
open Go.RowKit
attribute [local go_sem ↓] Go.wp_at_zero Go.wp_at_succ

set_option maxHeartbeats 4000000 in
set_option maxRecDepth 100000 in
theorem refFit_ok (h : HistV) (most : Int) (ao bo : Option Addr) (c d : Nat) (w w0 : World) (k0 : Kept (fun _ => False) w w0)
    (hw0 : w0 = (w.alloc (.cells #[.int .i64 h.sc, .int .u64 (h.ze : Int), .int .i64 h.po, .slice ao h.pl.length c, .int .i64 h.no, .slice bo h.nl.length d] 30)).alloc (.cells #[.int .i64 0, .int .u64 0, .int .i64 0, .slice none 0 0, .int .i64 0, .slice none 0 0] 30))
    (bx : HistBox w0 w.heap.size h (.slice ao h.pl.length c) (.slice bo h.nl.length d)) (rx : HistBox w0 (w.heap.size + 1) zeroH (.slice none 0 0) (.slice none 0 0))
    (hE : Calls Try.prog 79 #[.agg #[.int .i64 h.sc, .int .u64 (h.ze : Int), .int .i64 h.po, .slice ao h.pl.length c, .int .i64 h.no, .slice bo h.nl.length d]] w0 fun e w' => e = .returned (.int .i64 0) ∧ Kept (fun _ => False) w0 w')
    (HDN : Hid (∀ w' (b : Nat), Kept (fun _ => False) w0 w' → (b : Int) ≤ h.sc + 10 → Calls Try.prog 57 #[.agg #[.int .i64 h.sc, .int .u64 (h.ze : Int), .int .i64 h.po, .slice ao h.pl.length c, .int .i64 h.no, .slice bo h.nl.length d], .int .i64 b] w' (HistOut w' (downH h b) 0)))
    (hsc : -10 ≤ h.sc ∧ h.sc ≤ 20) (he : h.err = 0) :
    Calls Try.prog 75 #[.agg #[.int .i64 h.sc, .int .u64 (h.ze : Int), .int .i64 h.po, .slice ao h.pl.length c, .int .i64 h.no, .slice bo h.nl.length d], .int .i64 most] w (fun e w' => ∃ R E, FitOf h most R E ∧ HistOut w R E e w') := by
  have HK0 := Lib.hid k0
  have HBX := Lib.hid bx
  have HRX := Lib.hid rx
  have HW0 := Lib.hid hw0
  rw [hw0] at hE
  have HC := Lib.hid hE
  have HE := Lib.hid he
  have q : ((0 : Int) != 0) = false := rfl
  obtain ⟨N, hN⟩ : ∃ N : Nat, (N : Int) = h.sc + 11 := ⟨(h.sc + 11).toNat, by omega⟩
  have sc1 : IntKind.i64.wrap (h.sc - -10) = h.sc + 10 := by rw [IntWalk.i64_in _ ⟨by omega, by omega⟩]; omega
  have sc2 : h.sc - -10 = h.sc + 10 := by omega
  have sc5 : IntKind.i64.wrap (h.sc + 10) = h.sc + 10 := IntWalk.i64_in _ ⟨by omega, by omega⟩
  have HN := Lib.hid hN
  have hN60 : N ≤ 60 := by omega
  clear k0 bx rx hw0 hE he
  go_enter Try.func75, Try.ntmps75
  go_wp2_with (go_at_call 79; refine HC.out.mono ?_; rintro e w1 ⟨rfl, k1⟩; rw [← HW0.out] at k1; have K1 := Lib.hid k1; obtain ⟨c0, c1, c2, c3, c4, c5⟩ := (HBX.out.same k1 (fun x => x)).c; clear k1)
  clear c0 c1 c2 c3 c4 c5
  go_loopg [7, 8, 9, 16, 17, 18, 19, 20, 21, 22, 23, 24, 25, 26, 27, 28, 29, 30, 31, 32, 33, 34, 35, 36, 37, 38, 39, 40, 41, 42, 43] N (fun g s7 s8 s9 s16 s17 s18 s19 s20 s21 s22 s23 s24 s25 s26 s27 s28 s29 s30 s31 s32 s33 s34 s35 s36 s37 s38 s39 s40 s41 s42 s43 wr => ∃ b : Nat, b ≤ N ∧ g = N - b ∧ s7 = .int .i64 b ∧ (∀ a, a < b → ¬ fits h most a) ∧ Kept (fun _ => False) w0 wr)
  case atStart => exact ⟨0, Nat.zero_le _, rfl, rfl, fun a ha => by omega, K1.out⟩
  case round =>
    obtain ⟨b, hbN, rfl, rfl, hno, hk⟩ := hrel
    have HNO := Lib.hid hno
    have HK := Lib.hid hk
    clear hno
    obtain ⟨c0, c1, c2, c3, c4, c5⟩ := (HBX.out.same hk (fun x => x)).c
    by_cases hd : b < N
    · have hdi : (b : Int) ≤ h.sc + 10 := by omega
      have HD := Lib.hid hd
      have hdn := HDN.out wr b hk hdi
      obtain ⟨A, hA⟩ : ∃ A, A = dWidth h.po h.pl.length b := ⟨_, rfl⟩
      obtain ⟨B, hB⟩ : ∃ B, B = dWidth h.no h.nl.length b := ⟨_, rfl⟩
      have HF := Lib.hid (show fits h most b ↔ ((A : Int) ≤ most ∧ (B : Int) ≤ most) by unfold fits; rw [hA, hB])
      obtain ⟨R, hR⟩ : ∃ R, R = downH h b := ⟨_, rfl⟩
      rw [← hR] at hdn
      have hRA : (uvals R.pl).length = A ∧ (uvals R.nl).length = B := by rw [hR, uvals_length, uvals_length, hA, hB]; unfold downH; exact ⟨downL_length _ _ _, downL_length _ _ _⟩
      have HRA := Lib.hid hRA
      have HDX := Lib.hid hdn
      have HR := Lib.hid hR
      clear hdn hA hB hk hd hR hRA hN
      by_cases hf1 : (A : Int) ≤ most
      · by_cases hf2 : (B : Int) ≤ most
        · have HF2 := Lib.hid (HF.out.mpr ⟨hf1, hf2⟩)
          go_wp2_with (first
            | (go_at_call 57; refine HDX.out.mono ?_; rintro e w5 ⟨pv, nv, rfl, m1, m2, dis⟩; unfold histV; obtain ⟨a5, q5, rfl⟩ := m1.slice; obtain ⟨a6, q6, rfl⟩ := m2.slice; have HM1 := Lib.hid m1; have HM2 := Lib.hid m2; have HDIS := Lib.hid dis; rw [HRA.out.1, HRA.out.2]; have hrx := (HRX.out.same ((HK.out.trans m1.kept).alloc (.cells #[.int .i64 R.sc, .int .u64 (R.ze : Int), .int .i64 R.po, .slice a5 A q5, .int .i64 R.no, .slice a6 B q6] 30)) (fun x => x)); have RX5 := Lib.hid hrx; obtain ⟨r0, r1, r2, r3, r4, r5⟩ := hrx.c; obtain ⟨f0, f1, f2, f3, f4, f5⟩ := hrx.f; clear m1 m2 dis hrx)
            | fail)
          refine hist_end (h := R) (pv := .slice a5 A q5) (nv := .slice a6 B q6) Try.results75 rfl rfl rfl (RX5.out.set R _ _) ?_
          have kk : Kept (fun _ => False) w wr := HK0.out.trans HK.out
          have m1 := HM1.out
          have m2 := HM2.out
          have hds := HDIS.out
          rw [HRA.out.1] at m1 hds
          rw [HRA.out.2] at m2 hds
          refine ⟨R, 0, .inr (.inl ⟨HE.out, b, hdi, HF2.out, HNO.out, HR.out, rfl⟩), _, _, rfl, ?_, ?_, hds⟩
          · exact ((m1.down kk).alloc _).set6 RX5.out (by omega) _ _ _ _ _ _
          · exact ((m2.down kk).alloc _).set6 RX5.out (by omega) _ _ _ _ _ _
        · have HF2 := Lib.hid (show ¬ fits h most b from fun x => hf2 (HF.out.mp x).2)
          go_wp2_with (first
            | (go_at_call 57; refine HDX.out.mono ?_; rintro e w5 ⟨pv, nv, rfl, m1, m2, dis⟩; unfold histV; obtain ⟨a5, q5, rfl⟩ := m1.slice; obtain ⟨a6, q6, rfl⟩ := m2.slice; rw [HRA.out.1, HRA.out.2]; have HK5 := Lib.hid (HK.out.trans m1.kept); clear m1 m2 dis)
            | fail)
          go_roundg (N - (b + 1))
          case measure => have := HD.out; omega
          case rel => exact ⟨b + 1, HD.out, rfl, by go_num, fun a ha => by rcases Nat.lt_succ_iff_lt_or_eq.mp ha with x | x; exact HNO.out a x; rw [x]; exact HF2.out, HK5.out.alloc _⟩
      · have HF2 := Lib.hid (show ¬ fits h most b from fun x => hf1 (HF.out.mp x).1)
        go_wp2_with (first
          | (go_at_call 57; refine HDX.out.mono ?_; rintro e w5 ⟨pv, nv, rfl, m1, m2, dis⟩; unfold histV; obtain ⟨a5, q5, rfl⟩ := m1.slice; obtain ⟨a6, q6, rfl⟩ := m2.slice; rw [HRA.out.1, HRA.out.2]; have HK5 := Lib.hid (HK.out.trans m1.kept); clear m1 m2 dis)
          | fail)
        go_roundg (N - (b + 1))
        case measure => have := HD.out; omega
        case rel => exact ⟨b + 1, HD.out, rfl, by go_num, fun a ha => by rcases Nat.lt_succ_iff_lt_or_eq.mp ha with x | x; exact HNO.out a x; rw [x]; exact HF2.out, HK5.out.alloc _⟩
    · obtain rfl : b = N := by omega
      have hdi : ¬ (b : Int) ≤ h.sc + 10 := by omega
      have rx5 := HRX.out.same hk (fun x => x)
      have RX5 := Lib.hid rx5
      obtain ⟨r0, r1, r2, r3, r4, r5⟩ := rx5.c
      obtain ⟨f0, f1, f2, f3, f4, f5⟩ := rx5.f
      clear hd hk rx5 hN
      go_wp2
      refine hist_end (h := zeroH) Try.results75 rfl rfl rfl (RX5.out.set zeroH (.slice none 0 0) (.slice none 0 0)) ?_
      exact ⟨zeroH, 4, .inr (.inr ⟨HE.out, fun a ha => HNO.out a (by have := HN.out; omega), rfl, rfl⟩), zeroOut (E := 4) ((HK0.out.trans HK.out).newer (set6_kept _ _ _ _ _ _ _ _) (fun i e => by omega))⟩

set_option maxHeartbeats 4000000 in
set_option maxRecDepth 100000 in
theorem refFit_any (h : HistV) (most : Int) (pv nv : Value) (w : World) (ha : HistAt w h pv nv) (hok : h.ok) (hp : h.pl.length ≤ 1000000) (hn : h.nl.length ≤ 1000000) (hc1 : ∀ a n c, pv = .slice a n c → n ≤ c) (hc2 : ∀ a n c, nv = .slice a n c → n ≤ c) :
    Calls Try.prog 75 #[histV h pv nv, .int .i64 most] w (fun e w' => ∃ R E, FitOf h most R E ∧ HistOut w R E e w') := by
  obtain ⟨⟨ao, c, rfl⟩, bo, d, rfl⟩ := ha.sl
  obtain ⟨w0, hw0⟩ : ∃ w0, w0 = (w.alloc (.cells #[.int .i64 h.sc, .int .u64 (h.ze : Int), .int .i64 h.po, .slice ao h.pl.length c, .int .i64 h.no, .slice bo h.nl.length d] 30)).alloc (.cells #[.int .i64 0, .int .u64 0, .int .i64 0, .slice none 0 0, .int .i64 0, .slice none 0 0] 30) := ⟨_, rfl⟩
  have k0 : Kept (fun _ => False) w w0 := by rw [hw0]; exact ((Kept.refl _ w).alloc _).alloc _
  have bx : HistBox w0 w.heap.size h (.slice ao h.pl.length c) (.slice bo h.nl.length d) := by
    rw [hw0]; exact ((Kept.refl (fun _ => False) _).alloc _).same (heap_alloc_new w _) (fun x => x)
  have rx : HistBox w0 (w.heap.size + 1) zeroH (.slice none 0 0) (.slice none 0 0) := by
    rw [hw0]
    have := hist_alloc (w.alloc (.cells #[.int .i64 h.sc, .int .u64 (h.ze : Int), .int .i64 h.po, .slice ao h.pl.length c, .int .i64 h.no, .slice bo h.nl.length d] 30))
    have e : (w.alloc (.cells #[.int .i64 h.sc, .int .u64 (h.ze : Int), .int .i64 h.po, .slice ao h.pl.length c, .int .i64 h.no, .slice bo h.nl.length d] 30)).heap.size = w.heap.size + 1 := by simp
    rw [e] at this
    exact this
  have HC := Lib.hid (refCheck_any h _ _ w0 (ha.on k0) hok hp hn)
  have HA := Lib.hid fun w' (k : Kept (fun _ => False) w0 w') => ha.on (k0.trans k)
  have HK0 := Lib.hid k0
  have HBX := Lib.hid bx
  have HRX := Lib.hid rx
  have HW0 := Lib.hid hw0
  obtain ⟨E, hE⟩ : ∃ E, E = h.err := ⟨_, rfl⟩
  by_cases hE0 : h.err = 0
  · obtain ⟨hsc, _⟩ := err_light hE0
    have hC := HC.out
    rw [hE0] at hC
    refine refFit_ok h most ao bo c d w w0 HK0.out HW0.out HBX.out HRX.out hC (Lib.hid fun w' b k hb => ?_) hsc hE0
    have := refDown_any h b _ _ w' (HA.out _ k) hok hp hn (by unfold I64; omega) hc1 hc2
    have e1 : downE h b = 0 := by unfold downE; rw [if_neg (by omega), if_neg (by omega)]
    have e2 : downR h b = downH h b := by unfold downR; rw [e1, if_pos rfl, Int.toNat_natCast]
    rwa [e1, e2] at this
  · have HF : Hid (FitOf h most zeroH E) := Lib.hid (.inl ⟨hE0, hE, rfl⟩)
    rw [← hE] at HC hE0
    have q : ((E : Int) != 0) = true := bneT (by omega)
    rw [hw0] at HC
    have HC := Lib.hid HC.out
    clear ha k0 bx rx hw0 hE hc1 hc2
    obtain ⟨sc, ze, po, pl, no, nl⟩ := h
    unfold histV at HC ⊢
    go_enter Try.func75, Try.ntmps75
    go_wp2_with (go_at_call 79; refine HC.out.mono ?_; rintro e w1 ⟨rfl, k1⟩; rw [← HW0.out] at k1; have K1 := Lib.hid (HK0.out.trans k1); have rx1 := HRX.out.same k1 (fun x => x); have RX1 := Lib.hid rx1; obtain ⟨r0, r1, r2, r3, r4, r5⟩ := rx1.c; obtain ⟨f0, f1, f2, f3, f4, f5⟩ := rx1.f; clear k1 rx1)
    refine hist_end (h := zeroH) Try.results75 rfl rfl rfl (RX1.out.set zeroH (.slice none 0 0) (.slice none 0 0)) ?_
    exact ⟨zeroH, E, HF.out, zeroOut (K1.out.newer (set6_kept _ _ _ _ _ _ _ _) (fun i e => by omega))⟩
end Go.Proofs.Ytiiibhdohlpodaa

