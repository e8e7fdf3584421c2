/- package limnographref06: Row. -/
import Derived.Test.YtjpnfadmblmjbaaDoorV15
import Derived.Deep.RegionHeld3
namespace Go.Proofs.YtjpnfadmblmjbaaDoor
open Go.RowKit
attribute [local go_sem ↓] Go.wp_at_zero Go.wp_at_succ

theorem step_mineI {ops : Array Oper} {o : Oper} {a : Act} {K : Act → World → Prop} {Q : Exit → Act → World → Prop} {E : Prop} {w : World} (hgd : o.guard = none) (s x : Operand)
    (ho : o.op = .call { callee := .builtin .append, args := #[s, x], argTypes := #[26, 26] })
    (W : World) (v : Value) (xs : List Value) (hv : a.eval s = v) (hm : Mine W w 3 v xs)
    (y : Value) (news : List Value) (hy : a.eval x = y) (hs : Src Tryd.prog 1 26 y news.length news w)
    (hl : xs.length + news.length ≤ 1000000000000)
    (h : ∀ v' w', Mine W w' 3 v' (xs ++ news) → K (a.put o.dst v') w') :
    if Region.wanted o (yielded ops a.tmps) = true then Oper.wp Tryd.prog o a w K Q else E := by
  obtain ⟨iI, hiI, hzI0, hzI1, hzI2⟩ := info_parts Tryd.infoInt
  refine step_append_src w hgd s x 26 26 ho W.heap.size 3 iI (.int .i64 0) 1 8 Tryd.underlying26 hiI hzI0 hzI1 hzI2 rfl v xs.length xs hv hm.own y news.length news hy hs (by unfold maxLen; omega) (by omega) hm.kept.size ?_
  intro v' w' hown hg _ _
  refine h v' w' ⟨by rw [List.length_append]; exact hown, hm.kept.grown hg (fun k e hlt => ?_)⟩
  have := (ownsRow_lt hm.own e).2; omega

/-- The last one of a row's first numbers, and the step to it. -/
def lastA (l : List Int) (i : Nat) : Int := if i = 0 then 0 else l.getD (i - 1) 0
def stepA (l : List Int) (i : Nat) : Int := if i < 2 then 0 else diffI (l.getD (i - 1) 0) (l.getD (i - 2) 0)
theorem lastA_succ (l : List Int) (i : Nat) : lastA l (i + 1) = l.getD i 0 := by unfold lastA; rw [if_neg (by omega)]; rfl
theorem stepA_succ (l : List Int) (i : Nat) : stepA l (i + 1) = stepOf i (lastA l i) (stepA l i) (l.getD i 0) := by
  unfold stepOf
  by_cases h : i = 0
  · subst h; rfl
  · rw [if_pos (by omega)]
    unfold stepA lastA
    rw [if_neg (by omega), if_neg h]; rfl
/-- The bits of a row's first numbers. -/
def rowB (l : List Int) : Nat → List Bool
  | 0 => []
  | i + 1 => rowB l i ++ nextB i (lastA l i) (stepA l i) (l.getD i 0)
theorem smallB_length (v : Nat) : (smallB v).length ≤ 66 := by
  unfold smallB
  have h1 := classN_le v
  have hcc : classN v = 0 ∨ classN v = 1 ∨ classN v = 2 ∨ classN v = 3 := by omega
  simp only [List.length_append, bitsN_length]
  rcases hcc with h | h | h | h <;> rw [h] <;> simp [sizeC]
theorem nextB_length (n last step v : Int) : (nextB n last step v).length ≤ 70 := by
  unfold nextB
  have h1 := smallB_length (zigN v)
  have h2 := smallB_length (zigN (diffI v last))
  have h3 := stepB_length (diffI (diffI v last) step)
  split
  · omega
  · split <;> omega
theorem rowB_length (l : List Int) (i : Nat) : (rowB l i).length ≤ 70 * i := by
  induction i with
  | zero => simp [rowB]
  | succ i ih =>
    have := nextB_length i (lastA l i) (stepA l i) (l.getD i 0)
    simp only [rowB, List.length_append]; omega

set_option maxHeartbeats 2000000 in
set_option maxRecDepth 100000 in
theorem refRow6_any (v : Value) (l : List Int) (w : World) (hv : SlAt w v (vals l)) (hl : l.length ≤ 1000000) (hb : ∀ x ∈ l, I64 x) :
    Calls Tryd.prog 30 #[v] w fun e w' => ∃ vs, e = .returned vs ∧ Mine w w' 3 vs (ints (rowB l l.length)) := by
  have hlen := vals_length l
  have hv0 := Lib.hid hv
  obtain ⟨ao, c, hval, _, _⟩ := hv.val
  rw [hlen] at hval
  subst hval
  have hst : Mine w w 3 (.slice none 0 0) (ints (rowB l 0)) := Mine.nil _ _
  have HST := Lib.hid hst
  have HBL := Lib.hid (rowB_length l)
  clear hv hlen hst
  go_enter Tryd.func30, Tryd.ntmps30
  go_wp2
  go_loopg [3, 4] l.length (fun g s3 s4 wr => ∃ i : Nat, i ≤ l.length ∧ g = l.length - i ∧ s4 = .int .i64 i ∧ Mine w wr 3 s3 (ints (rowB l i)))
  case atStart => exact ⟨0, Nat.zero_le _, rfl, rfl, HST.out⟩
  case round =>
    obtain ⟨i, hil, rfl, rfl, hmine⟩ := hrel
    have HM := Lib.hid hmine
    have hb9 := HBL.out i
    clear hmine
    by_cases hd : i < l.length
    · have HD := Lib.hid hd
      have hdi : (i : Int) < (l.length : Int) := by omega
      have hsl := hv0.out.kept HM.out.kept (fun _ _ x => x)
      have HN : Hid (rowB l (i + 1) = rowB l i ++ nextB i (lastA l i) (stepA l i) (l.getD i 0)) := Lib.hid rfl
      by_cases h0 : i = 0
      · subst h0
        obtain ⟨g, off, rfl, hcell⟩ := hsl.elem (vals_get hd)
        have hx := getD_I64 hb 0
        obtain ⟨x, hxe⟩ : ∃ x, x = l.getD 0 0 := ⟨_, rfl⟩
        rw [← hxe] at hcell hx HN
        rw [Nat.add_zero] at hcell
        obtain ⟨hz1, hz2⟩ := zigN_eq x hx.1 hx.2
        have HZ := Lib.hid (refZig_any x hx.1 hx.2)
        rw [hz1] at HZ
        have HS := Lib.hid (small_any (zigN x) hz2)
        have HN2 := Lib.hid (show rowB l (0 + 1) = rowB l 0 ++ smallB (zigN x) from by rw [HN.out]; unfold nextB; rw [if_pos (by omega)])
        have hlS := smallB_length (zigN x)
        obtain ⟨Z, hZ⟩ : ∃ Z, Z = zigN x := ⟨_, rfl⟩
        rw [← hZ] at HZ HS HN2 hlS
        clear hsl hxe hx hz1 hz2 hZ hd HN
        go_wp2_with (first
          | (go_at_call 15; refine (HZ.out _).mono ?_; rintro e w' ⟨rfl, rfl⟩)
          | (go_at_call 14; refine (HS.out _).mono ?_; rintro e w2 ⟨vs, rfl, ho, hk⟩; have HM2 := Lib.hid (HM.out.on hk); have HR2 := Lib.hid (SlAt.ofOwn ho); clear ho hk)
          | (at_builtin; refine wpList_mineI rfl (.tmp 38) (.tmp 43) rfl w _ _ rfl HM2.out _ _ rfl (HR2.out.src (P := Tryd.prog) Tryd.underlying26 (ints_one _)) (by simp; omega) ?_; intro v6 w6 hm6; have HM6 := Lib.hid hm6; clear hm6))
        go_roundg (l.length - (0 + 1))
        case measure => have := HD.out; omega
        case rel => exact ⟨0 + 1, by have := HD.out; omega, rfl, rfl, by rw [HN2.out, ints_append]; exact HM6.out⟩
      · by_cases h1 : i = 1
        · subst h1
          obtain ⟨g, off, rfl, hcell0⟩ := hsl.elem (vals_get (j := 0) (by omega))
          have hw0 : SlAt w (.slice (some ⟨g, off, none⟩) l.length c) (vals l) := hv0.out
          obtain ⟨_, _, e', hcw0⟩ := hw0.elem (vals_get (j := 0) (by omega))
          injection e' with e'; injection e' with e1 e2; subst e1; subst e2
          obtain ⟨_, _, e', hcw1⟩ := hw0.elem (vals_get (j := 1) (by omega))
          injection e' with e'; injection e' with e1 e2; subst e1; subst e2
          obtain ⟨g', off', e', hcell⟩ := hsl.elem (vals_get hd)
          injection e' with e'; injection e' with e1 e2; subst e1; subst e2
          have hx := getD_I64 hb 1
          obtain ⟨x, hxe⟩ : ∃ x, x = l.getD 1 0 := ⟨_, rfl⟩
          obtain ⟨y, hye⟩ : ∃ y, y = l.getD 0 0 := ⟨_, rfl⟩
          rw [← hxe] at hcell hx HN
          rw [← hye, Nat.add_zero] at hcell0 hcw0
          rw [← hxe] at hcw1
          have HC : Hid (∀ w6, Kept (fun _ => False) w w6 → w6.cell? ⟨g, off, none⟩ = some (.int .i64 y) ∧ w6.cell? ⟨g, off + 1, none⟩ = some (.int .i64 x)) := Lib.hid fun w6 hk => ⟨hk.cell hcw0 (fun x => x), hk.cell hcw1 (fun x => x)⟩
          clear hcw0 hcw1 hw0
          have hdr := diffI_range x y
          have ux := uN_u64 x
          have uy := uN_u64 y
          have hd1 : IntKind.u64.wrap (((uN x : Nat) : Int) - ((uN y : Nat) : Int)) = ((uN (diffI x y) : Nat) : Int) := by
            rw [← ux, ← uy, ← uN_u64, IntKind.wrap_u64, IntKind.wrap_u64, IntKind.wrap_u64, IntKind.wrap_u64]; unfold diffI wrap64; omega
          have hd2 : IntKind.i64.wrap ((uN (diffI x y) : Nat) : Int) = diffI x y := by rw [IntWalk.i64_left]; exact uN_i64 _ hdr.1 hdr.2
          have hN1 : rowB l (1 + 1) = rowB l 1 ++ smallB (zigN (diffI x y)) := by
            rw [HN.out]; unfold nextB; rw [if_neg (by omega), if_pos (by omega)]
            have : lastA l 1 = y := by unfold lastA; rw [if_neg (by omega), hye]
            rw [this]
          have HN2 := Lib.hid hN1
          obtain ⟨D, hD⟩ : ∃ D, D = diffI x y := ⟨_, rfl⟩
          rw [← hD] at hd1 hd2 HN2 hdr
          obtain ⟨UX, hUX⟩ : ∃ UX, UX = uN x := ⟨_, rfl⟩
          obtain ⟨UY, hUY⟩ : ∃ UY, UY = uN y := ⟨_, rfl⟩
          obtain ⟨UD, hUD⟩ : ∃ UD, UD = uN D := ⟨_, rfl⟩
          rw [← hUX] at ux hd1
          rw [← hUY] at uy hd1
          rw [← hUD] at hd1 hd2
          obtain ⟨hz1, hz2⟩ := zigN_eq D hdr.1 hdr.2
          have HZ := Lib.hid (refZig_any D hdr.1 hdr.2)
          rw [hz1] at HZ
          have HS := Lib.hid (small_any (zigN D) hz2)
          have hlS := smallB_length (zigN D)
          obtain ⟨Z, hZ⟩ : ∃ Z, Z = zigN D := ⟨_, rfl⟩
          rw [← hZ] at HZ HS HN2 hlS
          have HMD := Lib.hid (HM.out.on ((Kept.refl _ wr).drew))
          have l0 : (0 : Int) < (l.length : Int) := by omega
          have l0n : 0 < l.length := by omega
          clear hsl hxe hye hx hz1 hz2 hZ hd HN hN1 hUX hUY hUD hD hdr
          go_wp2
          go_region_held3 (fun w' => w'.cell? ⟨g, off, none⟩ = some (.int .i64 y) ∧ w'.cell? ⟨g, off + 1, none⟩ = some (.int .i64 x)) (first | exact ⟨hcell0, hcell⟩ | exact HC6.out | go_keep)
            (first
              | (go_at_call 15; refine (HZ.out _).mono ?_; rintro e w' ⟨rfl, rfl⟩)
              | (go_at_call 14; refine (HS.out _).mono ?_; rintro e w2 ⟨vs, rfl, ho, hk⟩; have hcell0 := hk.cell (show wr.drew.cell? _ = _ from hcell0) (fun x => x); have hcell := hk.cell (show wr.drew.cell? _ = _ from hcell) (fun x => x); have HM2 := Lib.hid (HMD.out.on hk); have HR2 := Lib.hid (SlAt.ofOwn ho); clear ho hk)
              | (refine step_mineI (by rfl) (.tmp 47) (.tmp 59) (by rfl) w _ _ (by rfl) HM2.out _ _ (by rfl) (HR2.out.src (P := Tryd.prog) Tryd.underlying26 (ints_one _)) (by simp; omega) ?_; intro v6 w6 hm6; have HM6 := Lib.hid hm6; have HC6 := Lib.hid (HC.out w6 hm6.kept); clear hm6 hcell0 hcell)
              | fail)
          go_wp2
          go_roundg (l.length - (1 + 1))
          case measure => have := HD.out; omega
          case rel => exact ⟨1 + 1, by have := HD.out; omega, rfl, rfl, by rw [HN2.out, ints_append]; exact HM6.out⟩
        · obtain ⟨j1, hj1⟩ : ∃ j1, j1 = i - 1 := ⟨_, rfl⟩
          obtain ⟨j2, hj2⟩ : ∃ j2, j2 = i - 2 := ⟨_, rfl⟩
          obtain ⟨g, off, rfl, hcell2⟩ := hsl.elem (vals_get (j := j2) (by omega))
          have hw0 : SlAt w (.slice (some ⟨g, off, none⟩) l.length c) (vals l) := hv0.out
          obtain ⟨_, _, e', hcw0⟩ := hw0.elem (vals_get hd)
          injection e' with e'; injection e' with e1 e2; subst e1; subst e2
          obtain ⟨_, _, e', hcw1⟩ := hw0.elem (vals_get (j := j1) (by omega))
          injection e' with e'; injection e' with e1 e2; subst e1; subst e2
          obtain ⟨_, _, e', hcw2⟩ := hw0.elem (vals_get (j := j2) (by omega))
          injection e' with e'; injection e' with e1 e2; subst e1; subst e2
          obtain ⟨g', off', e', hcell1⟩ := hsl.elem (vals_get (j := j1) (by omega))
          injection e' with e'; injection e' with e1 e2; subst e1; subst e2
          obtain ⟨g', off', e', hcell⟩ := hsl.elem (vals_get hd)
          injection e' with e'; injection e' with e1 e2; subst e1; subst e2
          obtain ⟨x, hxe⟩ : ∃ x, x = l.getD i 0 := ⟨_, rfl⟩
          obtain ⟨y, hye⟩ : ∃ y, y = l.getD j1 0 := ⟨_, rfl⟩
          obtain ⟨z, hze⟩ : ∃ z, z = l.getD j2 0 := ⟨_, rfl⟩
          rw [← hxe] at hcell HN
          rw [← hye] at hcell1
          rw [← hze] at hcell2 hcw2
          rw [← hye] at hcw1
          rw [← hxe] at hcw0
          have HC : Hid (∀ w6, Kept (fun _ => False) w w6 → w6.cell? ⟨g, off + i, none⟩ = some (.int .i64 x) ∧ w6.cell? ⟨g, off + j1, none⟩ = some (.int .i64 y) ∧ w6.cell? ⟨g, off + j2, none⟩ = some (.int .i64 z)) := Lib.hid fun w6 hk => ⟨hk.cell hcw0 (fun x => x), hk.cell hcw1 (fun x => x), hk.cell hcw2 (fun x => x)⟩
          clear hcw0 hcw1 hcw2 hw0
          obtain ⟨D, hD⟩ : ∃ D, D = diffI (diffI x y) (diffI y z) := ⟨_, rfl⟩
          have hdr := diffI_range (diffI x y) (diffI y z)
          have ux := uN_u64 x
          have uy := uN_u64 y
          have uz := uN_u64 z
          have ud := uN_u64 D
          have hdd : IntKind.i64.wrap ((uN D : Nat) : Int) = D := by rw [IntWalk.i64_left]; exact uN_i64 _ (by rw [hD]; exact hdr.1) (by rw [hD]; exact hdr.2)
          obtain ⟨UX, hUX⟩ : ∃ UX, UX = uN x := ⟨_, rfl⟩
          obtain ⟨UY, hUY⟩ : ∃ UY, UY = uN y := ⟨_, rfl⟩
          obtain ⟨UZ, hUZ⟩ : ∃ UZ, UZ = uN z := ⟨_, rfl⟩
          obtain ⟨UD, hUD⟩ : ∃ UD, UD = uN D := ⟨_, rfl⟩
          rw [← hUX] at ux
          rw [← hUY] at uy
          rw [← hUZ] at uz
          rw [← hUD] at ud hdd
          obtain ⟨A1, hA1⟩ : ∃ A1 : Nat, (A1 : Int) = (2 * (UY : Int)) % 18446744073709551616 := ⟨((2 * (UY : Int)) % 18446744073709551616).toNat, by omega⟩
          obtain ⟨A2, hA2⟩ : ∃ A2 : Nat, (A2 : Int) = ((UX : Int) - (A1 : Int)) % 18446744073709551616 := ⟨(((UX : Int) - (A1 : Int)) % 18446744073709551616).toNat, by omega⟩
          have w1 : IntKind.u64.wrap (2 * (UY : Int)) = (A1 : Int) := by rw [IntKind.wrap_u64]; omega
          have w2 : IntKind.u64.wrap ((UX : Int) - (A1 : Int)) = (A2 : Int) := by rw [IntKind.wrap_u64]; omega
          have w3 : IntKind.u64.wrap ((A2 : Int) + (UZ : Int)) = (UD : Int) := by
            rw [← ud, IntKind.wrap_u64, IntKind.wrap_u64, hD]
            rw [IntKind.wrap_u64] at ux uy uz
            unfold diffI wrap64
            omega
          have hN1 : rowB l (i + 1) = rowB l i ++ stepB D := by
            rw [HN.out]; unfold nextB; rw [if_neg (by omega), if_neg (by omega)]
            have e1 : lastA l i = y := by unfold lastA; rw [if_neg (by omega), hye, hj1]
            have e2 : stepA l i = diffI y z := by unfold stepA; rw [if_neg (by omega), hye, hze, hj1, hj2]
            rw [e1, e2, hD]
          have HN2 := Lib.hid hN1
          have HS := Lib.hid (refStep_any D (by rw [hD]; exact hdr.1) (by rw [hD]; exact hdr.2))
          have hlS := stepB_length D
          have q0 : ((i : Int) == 0) = false := by simp; omega
          have q1 : ((i : Int) == 1) = false := by simp; omega
          have k1 : IntKind.i64.wrap ((i : Int) - 1) = (j1 : Int) := by rw [IntWalk.i64_in _ ⟨by omega, by omega⟩]; omega
          have k2 : IntKind.i64.wrap ((i : Int) - 2) = (j2 : Int) := by rw [IntWalk.i64_in _ ⟨by omega, by omega⟩]; omega
          have i0 : (0 : Int) ≤ (i : Int) := by omega
          have j10 : (0 : Int) ≤ (j1 : Int) := by omega
          have j1l : (j1 : Int) < (l.length : Int) := by omega
          have j20 : (0 : Int) ≤ (j2 : Int) := by omega
          have j2l : (j2 : Int) < (l.length : Int) := by omega
          have HMD := Lib.hid (HM.out.on ((Kept.refl _ wr).drew))
          have hb8 : i ≤ 1000000 := by omega
          clear hsl hxe hye hze hd HN hN1 hUX hUY hUZ hUD hD hdr hA1 hA2 hj1 hj2 h0 h1 ud
          go_wp2
          go_region_held3 (fun w' => w'.cell? ⟨g, off + i, none⟩ = some (.int .i64 x) ∧ w'.cell? ⟨g, off + j1, none⟩ = some (.int .i64 y) ∧ w'.cell? ⟨g, off + j2, none⟩ = some (.int .i64 z)) (first | exact ⟨hcell, hcell1, hcell2⟩ | exact HC6.out | go_keep)
            (first
              | (go_at_call 60; refine (HS.out _).mono ?_; rintro e w2 ⟨vs, rfl, ho⟩; have hcell := ho.kept.cell (show wr.drew.cell? _ = _ from hcell) (fun x => x); have hcell1 := ho.kept.cell (show wr.drew.cell? _ = _ from hcell1) (fun x => x); have hcell2 := ho.kept.cell (show wr.drew.cell? _ = _ from hcell2) (fun x => x); have HM2 := Lib.hid (HMD.out.on ho.kept); have HR2 := Lib.hid ho.at_; clear ho)
              | (refine step_mineI (by rfl) (.tmp 12) (.tmp 34) (by rfl) w _ _ (by rfl) HM2.out _ _ (by rfl) (HR2.out.src (P := Tryd.prog) Tryd.underlying26 (ints_one _)) (by simp; omega) ?_; intro v6 w6 hm6; have HM6 := Lib.hid hm6; have HC6 := Lib.hid (HC.out w6 hm6.kept); clear hm6 hcell hcell1 hcell2)
              | fail)
          go_wp2
          go_roundg (l.length - (i + 1))
          case measure => have := HD.out; omega
          case rel => exact ⟨i + 1, by have := HD.out; omega, rfl, by go_num, by rw [HN2.out, ints_append]; exact HM6.out⟩
    · obtain rfl : i = l.length := by omega
      clear hd
      go_wp2
      go_ret
      exact ⟨_, rfl, HM.out⟩
end Go.Proofs.YtjpnfadmblmjbaaDoor
