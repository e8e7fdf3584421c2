/- package fold: sub of two sides. -/
import Derived.Test.YtbjpcddnjndjlaaE7
import Derived.Test.YtbjpcddnjndjlaaG3
namespace Go.Proofs.Ytbjpcddnjndjlaa
open Go.RowKit
attribute [local go_sem ↓] Go.wp_at_zero Go.wp_at_succ

/-- What is left of a side, or that it hadn't so much. -/
def SubRes (o1 : Int) (l1 : List Nat) (o2 : Int) (l2 : List Nat) (ok : Bool) (o : Int) (l : List Nat) : Prop :=
  (ok = true ∧ hasS o1 l1 o2 l2 ∧ TrimOf o1 (lsL o1 l1 o2 l2) o l) ∨ (ok = false ∧ ¬ hasS o1 l1 o2 l2 ∧ o = 0 ∧ l = [])
theorem SubRes.uniq {o1 : Int} {l1 : List Nat} {o2 : Int} {l2 : List Nat} {k k' : Bool} {o o' : Int} {l l' : List Nat} (h : SubRes o1 l1 o2 l2 k o l) (h' : SubRes o1 l1 o2 l2 k' o' l') : k = k' ∧ o = o' ∧ l = l' := by
  rcases h with ⟨rfl, a, t⟩ | ⟨rfl, a, rfl, rfl⟩ <;> rcases h' with ⟨rfl, a', t'⟩ | ⟨rfl, a', rfl, rfl⟩
  · exact ⟨rfl, TrimOf.uniq t t'⟩
  · exact absurd a a'
  · exact absurd a' a
  · exact ⟨rfl, rfl, rfl⟩
def SubOut (w : World) (P : Bool → Int → List Nat → Prop) (e : Ending) (w' : World) : Prop :=
  ∃ ok o l v', P ok o l ∧ e = .returned (.tuple #[.agg #[.int .i64 o, v'], .bool ok]) ∧ Mine w w' 22 v' (uvals l)
theorem has_all {o1 : Int} {l1 : List Nat} {o2 : Int} {l2 : List Nat} (h : hasS o1 l1 o2 l2) (i : Int) : atN o2 l2 i ≤ atN o1 l1 i := by
  by_cases hi : o2 ≤ i ∧ i < o2 + (l2.length : Int)
  · rw [atN_in hi.1 hi.2]
    have := h (i - o2).toNat (by omega)
    rwa [show o2 + (((i - o2).toNat : Nat) : Int) = i by omega] at this
  · rw [atN_out (by omega)]; omega
/-- What is left while it is reckoned. -/
def lsP (o1 : Int) (l1 : List Nat) (o2 : Int) (l2 : List Nat) (m : Nat) : List Nat := rowF o1 l1.length fun i => if i < o1 + (m : Int) then atN o1 l1 i - atN o2 l2 i else atN o1 l1 i
theorem lsP_0 (o1 : Int) (l1 : List Nat) (o2 : Int) (l2 : List Nat) : lsP o1 l1 o2 l2 0 = l1 := by
  have : lsP o1 l1 o2 l2 0 = rowF o1 l1.length (atN o1 l1) := rowF_congr _ _ _ _ fun j _ => by rw [if_neg (by omega)]
  rw [this, row_atN]
theorem lsP_all (o1 : Int) (l1 : List Nat) (o2 : Int) (l2 : List Nat) : lsP o1 l1 o2 l2 l1.length = lsL o1 l1 o2 l2 := rowF_congr _ _ _ _ fun j hj => by rw [if_pos (by omega)]
theorem lsP_get (o1 : Int) (l1 : List Nat) (o2 : Int) (l2 : List Nat) (m : Nat) (h : m < l1.length) : (lsP o1 l1 o2 l2 m).getD m 0 = atN o1 l1 (o1 + (m : Int)) := by
  unfold lsP; rw [rowF_get _ _ _ _ h, if_neg (by omega)]
theorem lsP_succ (o1 : Int) (l1 : List Nat) (o2 : Int) (l2 : List Nat) (m : Nat) (h : m < l1.length) : lsP o1 l1 o2 l2 (m + 1) = (lsP o1 l1 o2 l2 m).set m (atN o1 l1 (o1 + (m : Int)) - atN o2 l2 (o1 + (m : Int))) := by
  unfold lsP
  rw [rowF_set o1 l1.length (fun i => if i < o1 + (m : Int) then atN o1 l1 i - atN o2 l2 i else atN o1 l1 i) (fun i => if i < o1 + ((m + 1 : Nat) : Int) then atN o1 l1 i - atN o2 l2 i else atN o1 l1 i) m h ?_]
  · rw [if_pos (by omega)]
  · intro i hi
    by_cases h1 : i < o1 + (m : Int)
    · rw [if_pos h1, if_pos (by omega)]
    · rw [if_neg h1, if_neg (by omega)]

set_option maxHeartbeats 4000000 in
set_option maxRecDepth 100000 in
theorem foldSub1_any (o1 : Int) (l1 : List Nat) (o2 : Int) (l2 : List Nat) (v1 v2 : Value) (w : World) (m1 : SlAt w v1 (uvals l1)) (m2 : SlAt w v2 (uvals l2)) (h1 : sideE o1 l1 = 0) (h2 : sideE o2 l2 = 0) (hb1 : ∀ x ∈ l1, x < 18446744073709551616) (hb2 : ∀ x ∈ l2, x < 18446744073709551616) :
    Calls Try.prog 47 #[.agg #[.int .i64 o1, v1], .agg #[.int .i64 o2, v2]] w (SubOut w (SubRes o1 l1 o2 l2)) := by
  obtain ⟨a1, _, _⟩ := sideE_zero h1
  obtain ⟨b1, _, _⟩ := sideE_zero h2
  obtain ⟨r1, r2⟩ := (side_range h1).1
  obtain ⟨r3, r4⟩ := (side_range h2).1
  obtain ⟨ao, c, hval1, _, _⟩ := m1.val
  obtain ⟨bo, d, hval2, _, _⟩ := m2.val
  rw [uvals_length] at hval1 hval2
  subst hval1 hval2
  have hsb := SB3.mk0 w o1 o2 (.slice ao l1.length c) (.slice bo l2.length d)
  obtain ⟨w0, hw0⟩ : ∃ w0, w0 = (((w.alloc (.cells #[.int .i64 o1, .slice ao l1.length c] 25)).alloc (.cells #[.int .i64 o2, .slice bo l2.length d] 25)).alloc (.cells #[.int .i64 0, .slice none 0 0] 25)) := ⟨_, rfl⟩
  rw [← hw0] at hsb
  have k0 : Kept (fun _ => False) w w0 := by rw [hw0]; exact (((Kept.refl _ w).alloc _).alloc _).alloc _
  have HW0 := Lib.hid hw0
  have HSB := Lib.hid hsb
  have HK0 := Lib.hid k0
  have HV1 := Lib.hid m1
  have HV2 := Lib.hid m2
  have HA1 := Lib.hid fun w' (k : SlAt w' (.slice ao l1.length c) (uvals l1)) i (hi : I64 i) => histAt_any o1 i l1 _ w' k ⟨by omega, by omega⟩ hi (by omega)
  have HA2 := Lib.hid fun w' (k : SlAt w' (.slice bo l2.length d) (uvals l2)) i (hi : I64 i) => histAt_any o2 i l2 _ w' k ⟨by omega, by omega⟩ hi (by omega)
  have HCL := Lib.hid fun w' (k : Kept (fun _ => False) w w') => sclone_any _ _ w' (m1.kept k (fun _ _ x => x)) (uvals_one _) (by rw [uvals_length]; omega)
  have HB1 := Lib.hid (And.intro hb1 hb2)
  have HL := Lib.hid (And.intro a1 b1)
  have HR := Lib.hid (And.intro (And.intro r1 r2) (And.intro r3 r4))
  clear m1 m2 hw0 hsb k0 hb1 hb2 h1 h2 a1 b1
  go_enter Try.func47, Try.ntmps47
  go_upto_region 1 with fail
  rw [← HW0.out]
  obtain ⟨⟨y0, y1⟩, _⟩ := HSB.out.b.c
  go_wp2
  clear y0 y1
  go_loopg [6, 7, 13, 14, 15, 16, 17, 18, 19, 20, 21, 22, 23, 24, 25, 26, 27] l2.length (fun g' s6 s7 s13 s14 s15 s16 s17 s18 s19 s20 s21 s22 s23 s24 s25 s26 s27 wr => ∃ i : Nat, i ≤ l2.length ∧ g' = l2.length - i ∧ s13 = .int .i64 i ∧ (∀ j, j < i → l2.getD j 0 ≤ atN o1 l1 (o2 + (j : Int))) ∧ SB3 w wr o1 o2 0 (.slice ao l1.length c) (.slice bo l2.length d) (.slice none 0 0) ∧ Kept (fun _ => False) w wr)
  case atStart => exact ⟨0, Nat.zero_le _, rfl, rfl, fun j h => by omega, HSB.out, HK0.out⟩
  case round =>
    obtain ⟨i, hil, rfl, rfl, hP, hsb, hkw⟩ := hrel
    have HPP := Lib.hid hP
    have HSR := Lib.hid hsb
    have HKW := Lib.hid hkw
    obtain ⟨⟨x0, x1⟩, _⟩ := hsb.a.c
    obtain ⟨⟨y0, y1⟩, _⟩ := hsb.b.c
    by_cases hd : i < l2.length
    · have hdi : (i : Int) < (l2.length : Int) := by omega
      have i0 : (0 : Int) ≤ (i : Int) := by omega
      have HD := Lib.hid hd
      obtain ⟨g, off, rfl, c0⟩ := (HV2.out.kept hkw (fun _ _ x => x)).elem (uvals_get hd)
      obtain ⟨y, hy⟩ : ∃ y, y = l2.getD i 0 := ⟨_, rfl⟩
      rw [← hy] at c0
      have t1 : IntKind.i64.wrap (o2 + (i : Int)) = o2 + (i : Int) := IntWalk.i64_in _ ⟨by omega, by have := HL.out; omega⟩
      have hca := HA1.out wr (HV1.out.kept hkw (fun _ _ x => x)) (o2 + (i : Int)) ⟨by omega, by have := HL.out; omega⟩
      obtain ⟨X, hX⟩ : ∃ X, X = atN o1 l1 (o2 + (i : Int)) := ⟨_, rfl⟩
      rw [← hX] at hca
      have HCA := Lib.hid hca
      by_cases hle : y ≤ X
      · have q : ¬ (X : Int) < (y : Int) := by omega
        have HP2 := Lib.hid (show ∀ j, j < i + 1 → l2.getD j 0 ≤ atN o1 l1 (o2 + (j : Int)) from fun j hj => by
          by_cases e : j = i
          · rw [e, ← hy, ← hX]; exact hle
          · exact HPP.out j (by omega))
        clear hca hX hy hle hP hsb hkw hd
        go_wp2_with fail
        refine HCA.out.mono ?_
        rintro e w1 ⟨rfl, k1⟩
        have HS1 := Lib.hid (And.intro (HSR.out.on k1) (HKW.out.trans k1))
        clear k1
        go_wp2
        go_roundg (l2.length - (i + 1))
        case measure => have := HD.out; omega
        case rel => exact ⟨i + 1, HD.out, rfl, by go_num, HP2.out, HS1.out.1, HS1.out.2⟩
      · have q : (X : Int) < (y : Int) := by omega
        have HN := Lib.hid (show ¬ hasS o1 l1 o2 l2 from fun h => by have := h i hd; rw [← hy, ← hX] at this; exact hle this)
        clear hca hX hy hle hP hsb hkw hd
        go_wp2_with fail
        refine HCA.out.mono ?_
        rintro e w1 ⟨rfl, k1⟩
        have HS1 := Lib.hid (And.intro (HSR.out.on k1) (HKW.out.trans k1))
        obtain ⟨⟨z0, z1⟩, f0, f1⟩ := HS1.out.1.r.c
        clear k1
        go_wp2
        refine side2_end (o := 0) (v := .slice none 0 0) Try.results47 rfl rfl rfl (HS1.out.1.r.set 0 (.slice none 0 0)) ?_
        exact ⟨false, 0, [], _, .inr ⟨rfl, HN.out, rfl, rfl⟩, rfl, Mine.nil' _ (two_kept HS1.out.2 (by omega))⟩
    · obtain rfl : i = l2.length := by omega
      have HHAS : Hid (hasS o1 l1 o2 l2) := Lib.hid hP
      clear hd hP x0 x1 y0 y1
      go_upto_region 7 with fail
      have HD0 := Lib.hid (show SB3 w wr.drew o1 o2 0 (.slice ao l1.length c) (.slice bo l2.length d) (.slice none 0 0) ∧ Kept (fun _ => False) w wr.drew from ⟨hsb.on (Kept.refl _ _).drew, hkw.drew⟩)
      clear hsb hkw
      go_cut [8] (fun s8 wc => ∃ p a3 q3, s8 = .pointer (some ⟨p, 0, none⟩) ∧ SideBox wc p o1 (.slice a3 l1.length q3) ∧ w.heap.size + 1 + 1 < p ∧ Mine w wc 22 (.slice a3 l1.length q3) (uvals l1) ∧ SB3 w wc o1 o2 0 (.slice ao l1.length c) (.slice bo l2.length d) (.slice none 0 0))
      case first =>
        have HGE := Lib.hid (show w.heap.size + 1 + 1 < wr.heap.size from (Array.getElem?_eq_some_iff.1 HSR.out.r).1)
        refine AnyBut.start (S := fun w' => (w'.cell? ⟨w.heap.size, 0, none⟩ = some (.int .i64 o1) ∧ w'.cell? ⟨w.heap.size, 1, none⟩ = some (.slice ao l1.length c))) (k := 7) (by kernel_rfl) ?_
        refine AnyBut.take (i := 0) (v := ?v1) rfl (by kernel_rfl) (by kernel_rfl) (by kernel_rfl) (by kernel_rfl) (fun _ _ _ h => h) (HD0.out.1.a.c.1) (Or.inl ⟨by rfl, ?hy1⟩) ?r1
        case hy1 =>
          intro w hSw
          try dsimp only at hSw
          go_simp
          try with_reducible rfl
        try simp only [Act.put, List.setIfInBounds_toArray]
        refine AnyBut.take (i := 1) (v := ?v2) rfl (by kernel_rfl) (by kernel_rfl) (by kernel_rfl) (by kernel_rfl) (fun _ _ _ h => h) (HD0.out.1.a.c.1) (Or.inl ⟨by rfl, ?hy2⟩) ?r2
        case hy2 =>
          intro w hSw
          try dsimp only at hSw
          go_simp
          try with_reducible rfl
        try simp only [Act.put]
        refine AnyBut.take (i := 2) (v := ?v3) rfl (by kernel_rfl) (by kernel_rfl) (by kernel_rfl) (by kernel_rfl) (fun _ _ _ h => h) (HD0.out.1.a.c.1) (Or.inl ⟨by rfl, ?hy3⟩) ?r3
        case hy3 =>
          intro w hSw
          try dsimp only at hSw
          go_simp
          try with_reducible rfl
        try simp only [Act.put]
        refine AnyBut.take (i := 3) (v := ?v4) rfl (by kernel_rfl) (by kernel_rfl) (by kernel_rfl) (by kernel_rfl) (fun _ _ _ h => h) (HD0.out.1.a.c.1) (Or.inl ⟨by rfl, ?hy4⟩) ?r4
        case hy4 =>
          intro w hSw
          try dsimp only at hSw
          go_simp
          try with_reducible rfl
        try simp only [Act.put]
        refine AnyBut.two (i := 4) (j := 6) (by kernel_rfl) rfl rfl (fun K hK => ?_) (fun K hK => ?_)
        · go_simp
          go_wp2_with (go_at_call 41; refine (HCL.out _ HD0.out.2).mono ?_; rintro e w3 ⟨v3, rfl, hm3⟩; obtain ⟨a3, q3, rfl⟩ := hm3.slice; rw [uvals_length] at hm3 ⊢; have HM3 := Lib.hid hm3; have HD3 := Lib.hid (show SB3 w w3 o1 o2 0 (.slice ao l1.length c) (.slice bo l2.length d) (.slice none 0 0) ∧ Kept (fun _ => False) w w3 from ⟨HD0.out.1.on hm3.kept, HD0.out.2.trans hm3.kept⟩); clear hm3)
          refine hK.out _ _ (HD3.out.1.a.c.1) ?_
          clear hK K
          try simp only [Act.put, List.setIfInBounds_toArray, List.set_cons_zero, List.set_cons_succ]
          refine AnyBut.take (i := 5) (v := ?v5) rfl (by kernel_rfl) (by kernel_rfl) (by kernel_rfl) (by kernel_rfl) (fun _ _ _ h => h) (HD3.out.1.a.c.1) (Or.inl ⟨by rfl, ?hy5⟩) ?r5
          case hy5 =>
            intro w hSw
            try dsimp only at hSw
            go_simp
            try with_reducible rfl
          try simp only [Act.put, List.setIfInBounds_toArray]
          refine AnyBut.one (i := 6) (by kernel_rfl) rfl (fun K hK => ?_)
          go_simp
          have HDA := Lib.hid (show SB3 w (w3.alloc (.cells #[.int .i64 0, .slice none 0 0] 25)) o1 o2 0 (.slice ao l1.length c) (.slice bo l2.length d) (.slice none 0 0) ∧ Kept (fun _ => False) w (w3.alloc (.cells #[.int .i64 0, .slice none 0 0] 25)) from ⟨HD3.out.1.on ((Kept.refl _ _).alloc _), HD3.out.2.alloc _⟩)
          refine hK.out _ _ (HDA.out.1.a.c.1) ?_
          clear hK K
          try simp only [Act.put, List.setIfInBounds_toArray, List.set_cons_zero, List.set_cons_succ]
          refine AnyBut.last (by kernel_rfl) rfl (by kernel_rfl) (fun K hK => ?_)
          go_simp
          refine hK.out _ _ ?_
          clear hK K
          try simp only [Act.put, List.setIfInBounds_toArray, List.set_cons_zero, List.set_cons_succ]
          go_wp2
          go_meet
          case rel =>
            have k3 := (Kept.refl (fun _ => False) w3).alloc (.cells #[.int .i64 o1, .slice a3 l1.length q3] 25)
            exact ⟨_, _, _, rfl, heap_alloc_new w3 _, by have h1 : wr.heap.size ≤ w3.heap.size := HM3.out.kept.size; have := HGE.out; omega, (HM3.out.down HD0.out.2).on k3, HD3.out.1.on k3⟩
        · go_simp
          have HDA := Lib.hid (show SB3 w (wr.drew.alloc (.cells #[.int .i64 0, .slice none 0 0] 25)) o1 o2 0 (.slice ao l1.length c) (.slice bo l2.length d) (.slice none 0 0) ∧ Kept (fun _ => False) w (wr.drew.alloc (.cells #[.int .i64 0, .slice none 0 0] 25)) from ⟨HD0.out.1.on ((Kept.refl _ _).alloc _), HD0.out.2.alloc _⟩)
          refine hK.out _ _ (HDA.out.1.a.c.1) ?_
          clear hK K
          try simp only [Act.put, List.setIfInBounds_toArray, List.set_cons_zero, List.set_cons_succ]
          refine AnyBut.one (i := 4) (by kernel_rfl) rfl (fun K hK => ?_)
          go_simp
          go_wp2_with (go_at_call 41; refine (HCL.out _ HDA.out.2).mono ?_; rintro e w3 ⟨v3, rfl, hm3⟩; obtain ⟨a3, q3, rfl⟩ := hm3.slice; rw [uvals_length] at hm3 ⊢; have HM3 := Lib.hid hm3; have HD3 := Lib.hid (show SB3 w w3 o1 o2 0 (.slice ao l1.length c) (.slice bo l2.length d) (.slice none 0 0) ∧ Kept (fun _ => False) w w3 from ⟨HDA.out.1.on hm3.kept, HDA.out.2.trans hm3.kept⟩); clear hm3)
          refine hK.out _ _ (HD3.out.1.a.c.1) ?_
          clear hK K
          try simp only [Act.put, List.setIfInBounds_toArray, List.set_cons_zero, List.set_cons_succ]
          refine AnyBut.take (i := 5) (v := ?v6) rfl (by kernel_rfl) (by kernel_rfl) (by kernel_rfl) (by kernel_rfl) (fun _ _ _ h => h) (HD3.out.1.a.c.1) (Or.inl ⟨by rfl, ?hy6⟩) ?r6
          case hy6 =>
            intro w hSw
            try dsimp only at hSw
            go_simp
            try with_reducible rfl
          try simp only [Act.put, List.setIfInBounds_toArray]
          refine AnyBut.last (by kernel_rfl) rfl (by kernel_rfl) (fun K hK => ?_)
          have hbx : SideBox w3 wr.heap.size 0 (.slice none 0 0) := HM3.out.kept.same (heap_alloc_new wr.drew (.cells #[.int .i64 0, .slice none 0 0] 25)) (fun x => x)
          have HBX := Lib.hid hbx
          obtain ⟨⟨h0, h1⟩, h2, h3⟩ := hbx.c
          clear hbx
          go_simp
          refine hK.out _ _ ?_
          clear hK K
          try simp only [Act.put, List.setIfInBounds_toArray, List.set_cons_zero, List.set_cons_succ]
          go_wp2
          go_meet
          case rel =>
            have hg := HGE.out
            have k3 := two_kept (x := .int .i64 o1) (y := .slice a3 l1.length q3) (g := wr.heap.size) (W := wr) ((((Kept.refl (fun _ => False) wr).drew).alloc _).trans HM3.out.kept) (Nat.le_refl _)
            exact ⟨_, _, _, rfl, HBX.out.set o1 _, by omega, ((HM3.out.down (HDA.out.2)).setBox HBX.out (by decide) (by omega) _ _), HSR.out.on k3⟩
      case rest =>
        obtain ⟨p, a3, q3, rfl, hp, hplt, hm, hs3⟩ := hcut
        have HPX := Lib.hid hp
        have HPL := Lib.hid hplt
        have HM := Lib.hid hm
        have HS3 := Lib.hid hs3
        obtain ⟨⟨p0, p1⟩, _⟩ := hp.c
        clear hp hplt hm hs3
        go_wp2
        clear p0 p1
        go_loopg [9, 37, 38, 39, 40, 41, 42, 43, 44, 45, 46, 47, 48, 49, 50, 51, 52, 53] l1.length (fun g' s9 s37 s38 s39 s40 s41 s42 s43 s44 s45 s46 s47 s48 s49 s50 s51 s52 s53 wx => ∃ m : Nat, m ≤ l1.length ∧ g' = l1.length - m ∧ s37 = .int .i64 m ∧ Mine w wx 22 (.slice a3 l1.length q3) (uvals (lsP o1 l1 o2 l2 m)) ∧ Kept (fun k => (Value.slice a3 l1.length q3).ownBlock = some k) wc wx)
        case atStart => exact ⟨0, Nat.zero_le _, rfl, rfl, by rw [lsP_0]; exact HM.out, Kept.refl _ _⟩
        case round =>
          obtain ⟨m, hml, rfl, rfl, hm, hk⟩ := hrel
          have HMM := Lib.hid hm
          have HKK := Lib.hid hk
          have HPR := Lib.hid (HPX.out.same hk (own_box HM.out.own HPX.out (by decide)))
          have HSA := Lib.hid (HS3.out.a.same hk (own_box HM.out.own HS3.out.a (by decide)))
          have HSBB := Lib.hid (HS3.out.b.same hk (own_box HM.out.own HS3.out.b (by decide)))
          have HSR3 := Lib.hid (HS3.out.r.same hk (own_box HM.out.own HS3.out.r (by decide)))
          by_cases hd : m < l1.length
          · have hdi : (m : Int) < (l1.length : Int) := by omega
            have m0 : (0 : Int) ≤ (m : Int) := by omega
            have HD := Lib.hid hd
            rcases hm.own.2 with ⟨e, _⟩ | ⟨G, cap, cur, e, hGW, _⟩
            · injection e with e1 e2 e3; omega
            · injection e with e1 e2 e3
              subst e1 e3
              clear e2
              have HGW := Lib.hid hGW
              have hmW : wr.ownsRow w.heap.size 22 1 (.slice (some ⟨G, 0, none⟩) l1.length q3) l1.length (uvals (lsP o1 l1 o2 l2 m)) := by have := hm.own; rwa [uvals_length, show (lsP o1 l1 o2 l2 m).length = l1.length by unfold lsP; simp] at this
              have hcd := hmW.cellAt m (by omega)
              rw [uvals_get (by unfold lsP; simpa using hd), lsP_get _ _ _ _ _ hd] at hcd
              have hst := lsP_succ o1 l1 o2 l2 m hd
              have hall := has_all HHAS.out (o1 + (m : Int))
              have hxb := atN_at o1 l1 m hd
              have hxl := getD_u64 HB1.out.1 m
              rw [← hxb] at hxl
              have t1 : IntKind.i64.wrap (o1 + (m : Int)) = o1 + (m : Int) := IntWalk.i64_in _ ⟨by omega, by have := HL.out; omega⟩
              have hca := fun w' k => HA2.out w' k (o1 + (m : Int)) ⟨by omega, by have := HL.out; omega⟩
              obtain ⟨X, hX⟩ : ∃ X, X = atN o1 l1 (o1 + (m : Int)) := ⟨_, rfl⟩
              obtain ⟨Z, hZ⟩ : ∃ X, X = atN o2 l2 (o1 + (m : Int)) := ⟨_, rfl⟩
              rw [← hX] at hcd hst hall hxl
              rw [← hZ] at hst hall hca
              obtain ⟨Y, hY⟩ : ∃ Y, Y = X - Z := ⟨_, rfl⟩
              rw [← hY] at hst
              have HA := Lib.hid hca
              have u1 : IntKind.u64.wrap ((X : Int) - (Z : Int)) = (Y : Int) := by rw [IntKind.wrap_u64]; omega
              have u2 : (X : Int) - (Z : Int) = (Y : Int) := by omega
              have u3 : IntKind.u64.wrap (Y : Int) = (Y : Int) := by rw [IntKind.wrap_u64]; omega
              have HST := Lib.hid (show uvals (lsP o1 l1 o2 l2 (m + 1)) = (uvals (lsP o1 l1 o2 l2 m)).set m (.int .u64 (Y : Int)) by rw [uvals_set, hst])
              have HMD := Lib.hid (show Mine w wr.drew 22 (.slice (some ⟨G, 0, none⟩) l1.length q3) (uvals (lsP o1 l1 o2 l2 m)) from hm.on (Kept.refl _ _).drew)
              have HMW := Lib.hid hmW
              have hS : ∀ w', Kept (fun _ => False) wr.drew w' → (w'.cell? ⟨p, 1, none⟩ = some (.slice (some ⟨G, 0, none⟩) l1.length q3) ∧ w'.cell? ⟨G, m, none⟩ = some (.int .u64 (X : Int))) ∧ w'.cell? ⟨w.heap.size, 0, none⟩ = some (.int .i64 o1) ∧ w'.cell? ⟨w.heap.size + 1, 0, none⟩ = some (.int .i64 o2) ∧ w'.cell? ⟨w.heap.size + 1, 1, none⟩ = some (.slice bo l2.length d) := fun w' k => by
                have k2 := ((Kept.refl (fun _ => False) wr).drew).trans k
                exact ⟨⟨(HPR.out.same k2 (fun x => x)).c.1.2, k2.cell hcd (fun x => x)⟩, (HSA.out.same k2 (fun x => x)).c.1.1, (HSBB.out.same k2 (fun x => x)).c.1⟩
              have HSS := Lib.hid hS
              have HS0 := Lib.hid (hS _ (Kept.refl _ _))
              have HFZ : Hid (∀ w', Kept (fun _ => False) wr.drew w' → w'.frozen? ⟨G, m, none⟩ = false) := Lib.hid fun w' k => by
                obtain ⟨cur, hc⟩ := ownsRow_block (HMD.out.on k).own (k := G) rfl
                simp [World.frozen?, hc]
              clear hca hS hst hall hxb hxl hX hZ hY hcd hmW hGW hd hm hk
              go_wp2
              refine AnyBut.start (S := fun w' => (w'.cell? ⟨p, 1, none⟩ = some (.slice (some ⟨G, 0, none⟩) l1.length q3) ∧ w'.cell? ⟨G, m, none⟩ = some (.int .u64 (X : Int))) ∧ w'.cell? ⟨w.heap.size, 0, none⟩ = some (.int .i64 o1) ∧ w'.cell? ⟨w.heap.size + 1, 0, none⟩ = some (.int .i64 o2) ∧ w'.cell? ⟨w.heap.size + 1, 1, none⟩ = some (.slice bo l2.length d)) (k := 13) (by kernel_rfl) ?_
              refine AnyBut.take (i := 0) (v := ?v7) rfl (by kernel_rfl) (by kernel_rfl) (by kernel_rfl) (by kernel_rfl) (fun _ _ _ h => h) (HS0.out) (Or.inl ⟨by rfl, ?hy7⟩) ?r7
              case hy7 =>
                intro w hSw
                try dsimp only at hSw
                go_simp
                try with_reducible rfl
              try simp only [Act.put, List.setIfInBounds_toArray]
              refine AnyBut.take (i := 1) (v := ?v8) rfl (by kernel_rfl) (by kernel_rfl) (by kernel_rfl) (by kernel_rfl) (fun _ _ _ h => h) (HS0.out) (Or.inl ⟨by rfl, ?hy8⟩) ?r8
              case hy8 =>
                intro w hSw
                try dsimp only at hSw
                go_simp
                try with_reducible rfl
              try simp only [Act.put]
              refine AnyBut.take (i := 2) (v := ?v9) rfl (by kernel_rfl) (by kernel_rfl) (by kernel_rfl) (by kernel_rfl) (fun _ _ _ h => h) (HS0.out) (Or.inl ⟨by rfl, ?hy9⟩) ?r9
              case hy9 =>
                intro w hSw
                try dsimp only at hSw
                go_simp
                try with_reducible rfl
              try simp only [Act.put]
              refine AnyBut.take (i := 3) (v := ?v10) rfl (by kernel_rfl) (by kernel_rfl) (by kernel_rfl) (by kernel_rfl) (fun _ _ _ h => h) (HS0.out) (Or.inl ⟨by rfl, ?hy10⟩) ?r10
              case hy10 =>
                intro w hSw
                try dsimp only at hSw
                go_simp
                try with_reducible rfl
              try simp only [Act.put]
              refine AnyBut.take (i := 4) (v := ?v11) rfl (by kernel_rfl) (by kernel_rfl) (by kernel_rfl) (by kernel_rfl) (fun _ _ _ h => h) (HS0.out) (Or.inl ⟨by rfl, ?hy11⟩) ?r11
              case hy11 =>
                intro w hSw
                try dsimp only at hSw
                go_simp
                try with_reducible rfl
              try simp only [Act.put]
              refine AnyBut.take (i := 5) (v := ?v12) rfl (by kernel_rfl) (by kernel_rfl) (by kernel_rfl) (by kernel_rfl) (fun _ _ _ h => h) (HS0.out) (Or.inl ⟨by rfl, ?hy12⟩) ?r12
              case hy12 =>
                intro w hSw
                try dsimp only at hSw
                go_simp
                try with_reducible rfl
              try simp only [Act.put]
              refine AnyBut.take (i := 6) (v := ?v13) rfl (by kernel_rfl) (by kernel_rfl) (by kernel_rfl) (by kernel_rfl) (fun _ _ _ h => h) (HS0.out) (Or.inl ⟨by rfl, ?hy13⟩) ?r13
              case hy13 =>
                intro w hSw
                try dsimp only at hSw
                go_simp
                try with_reducible rfl
              try simp only [Act.put]
              refine AnyBut.take (i := 7) (v := ?v14) rfl (by kernel_rfl) (by kernel_rfl) (by kernel_rfl) (by kernel_rfl) (fun _ _ _ h => h) (HS0.out) (Or.inl ⟨by rfl, ?hy14⟩) ?r14
              case hy14 =>
                intro w hSw
                try dsimp only at hSw
                go_simp
                try with_reducible rfl
              try simp only [Act.put]
              refine AnyBut.take (i := 8) (v := ?v15) rfl (by kernel_rfl) (by kernel_rfl) (by kernel_rfl) (by kernel_rfl) (fun _ _ _ h => h) (HS0.out) (Or.inl ⟨by rfl, ?hy15⟩) ?r15
              case hy15 =>
                intro w hSw
                try dsimp only at hSw
                go_simp
                try with_reducible rfl
              try simp only [Act.put]
              refine AnyBut.take (i := 9) (v := ?v16) rfl (by kernel_rfl) (by kernel_rfl) (by kernel_rfl) (by kernel_rfl) (fun _ _ _ h => h) (HS0.out) (Or.inl ⟨by rfl, ?hy16⟩) ?r16
              case hy16 =>
                intro w hSw
                try dsimp only at hSw
                go_simp
                try with_reducible rfl
              try simp only [Act.put]
              refine AnyBut.one (i := 10) (by kernel_rfl) rfl (fun K hK => ?_)
              go_simp
              go_wp2_with fail
              refine (HA.out _ (HV2.out.kept HMD.out.kept (fun _ _ x => x))).mono ?_
              rintro e w4 ⟨rfl, k4⟩
              have HK4 := Lib.hid k4
              have HS4 := Lib.hid (HSS.out _ k4)
              have hc4 := HS4.out.1.2
              have hf4 := HFZ.out _ k4
              clear k4
              go_wp2
              refine hK.out _ _ (HS4.out) ?_
              clear hK K
              try simp only [Act.put, List.setIfInBounds_toArray, List.set_cons_zero, List.set_cons_succ]
              refine AnyBut.take (i := 11) (v := ?v17) rfl (by kernel_rfl) (by kernel_rfl) (by kernel_rfl) (by kernel_rfl) (fun _ _ _ h => h) (HS4.out) (Or.inl ⟨by rfl, ?hy17⟩) ?r17
              case hy17 =>
                intro w hSw
                try dsimp only at hSw
                go_simp
                try with_reducible rfl
              try simp only [Act.put, List.setIfInBounds_toArray]
              refine AnyBut.take (i := 12) (v := ?v18) rfl (by kernel_rfl) (by kernel_rfl) (by kernel_rfl) (by kernel_rfl) (fun _ _ _ h => h) (HS4.out) (Or.inl ⟨by rfl, ?hy18⟩) ?r18
              case hy18 =>
                intro w hSw
                try dsimp only at hSw
                go_simp
                try with_reducible rfl
              try simp only [Act.put]
              refine AnyBut.last (by kernel_rfl) rfl (by kernel_rfl) (fun K hK => ?_)
              go_simp
              refine hK.out _ _ ?_
              clear hK K
              try simp only [Act.put, List.setIfInBounds_toArray, List.set_cons_zero, List.set_cons_succ]
              go_wp2
              have HN : Mine w (w4.setCell ⟨G, m, none⟩ (.int .u64 (Y : Int))) 22 (.slice (some ⟨G, 0, none⟩) l1.length q3) (uvals (lsP o1 l1 o2 l2 (m + 1))) ∧ Kept (fun k => (Value.slice (some ⟨G, 0, none⟩) l1.length q3).ownBlock = some k) wc (w4.setCell ⟨G, m, none⟩ (.int .u64 (Y : Int))) := by
                have k4 := ((Kept.refl (fun _ => False) wr).drew).trans HK4.out
                refine ⟨?_, ?_⟩
                · rw [HST.out]
                  exact Mine.ofFresh (owns_set (k4.owns HMW.out (fun _ _ x => x)) m (.int .u64 (Y : Int))) ((HMM.out.kept.trans k4).newer ((Kept.refl (fun k => k = G) w4).setCell (p := ⟨G, m, none⟩) (fun _ => rfl) _) (fun i e => by rw [e]; exact HGW.out))
                · exact (HKK.out.trans (k4.mono (fun _ _ x => x.elim))).setCell (p := ⟨G, m, none⟩) (fun _ => rfl) _
              have HN := Lib.hid HN
              go_roundg (l1.length - (m + 1))
              case measure => have := HD.out; omega
              case rel => exact ⟨m + 1, HD.out, rfl, by go_num, HN.out.1, HN.out.2⟩
          · obtain rfl : m = l1.length := by omega
            have hcap : ∀ a n c, Value.slice a3 l1.length q3 = .slice a n c → n ≤ c := fun a n c e => by
              have := own_cap hm.own
              injection e with e1 e2 e3
              rw [uvals_length, show (lsP o1 l1 o2 l2 l1.length).length = l1.length by unfold lsP; simp] at this
              omega
            rw [lsP_all] at hm
            have hll : (lsL o1 l1 o2 l2).length = l1.length := by unfold lsL; simp
            have htr := histTrim_any o1 (lsL o1 l1 o2 l2) _ wr hm.at_ hcap ⟨by omega, by omega⟩ (by rw [hll]; have := HL.out; omega)
            have HT := Lib.hid htr
            have HMF := Lib.hid hm
            obtain ⟨⟨p0, p1⟩, _⟩ := HPR.out.c
            clear htr hll hcap hm hk hd
            go_wp2_with fail
            refine HT.out.mono ?_
            rintro e w5 ⟨o5, l5, v5, ht5, rfl, hm5⟩
            have HT5 := Lib.hid ht5
            have HM5 := Lib.hid hm5
            have hr5 := HSR3.out.same hm5.kept (fun x => x)
            have HR5 := Lib.hid hr5
            obtain ⟨⟨z0, z1⟩, f0, f1⟩ := hr5.c
            obtain ⟨a5, q5, rfl⟩ := hm5.slice
            clear ht5 hm5 hr5
            go_wp2
            refine side2_end (o := o5) (v := .slice a5 (uvals l5).length q5) Try.results47 rfl rfl rfl (HR5.out.set o5 (.slice a5 (uvals l5).length q5)) ?_
            exact ⟨true, o5, l5, _, .inl ⟨rfl, HHAS.out, HT5.out⟩, rfl, (HM5.out.down HMF.out.kept).setBox HR5.out (by decide) (by omega) _ _⟩
end Go.Proofs.Ytbjpcddnjndjlaa
