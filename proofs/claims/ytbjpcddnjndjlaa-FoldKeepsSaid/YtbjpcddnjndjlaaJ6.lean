/- The document's answer for hist: once. -/
import Derived.Test.YtbjpcddnjndjlaaJ5
import Derived.Test.YtbjpcddnjndjlaaHB
import Derived.Deep.RegionLaw
namespace Go.Proofs.Ytbjpcddnjndjlaa
open Go.RowKit
attribute [local go_sem ↓] Go.wp_at_zero Go.wp_at_succ

theorem take_snoc {l : List Nat} {i : Nat} (h : i < l.length) : l.take (i + 1) = l.take i ++ [l.getD i 0] := by
  have e : l.getD i 0 = l[i] := by rw [List.getD_eq_getElem?_getD, List.getElem?_eq_getElem h]; rfl
  rw [List.take_succ_eq_append_getElem h, e]
theorem sum_take_le (l : List Nat) (i : Nat) : (l.take i).sum ≤ l.sum := by
  have := sumN_le 0 l i
  unfold sumN at this; omega
theorem mem_sum {l : List Nat} {x : Nat} (h : x ∈ l) : x ≤ l.sum := by
  induction l with
  | nil => cases h
  | cons a l ih =>
    rw [List.sum_cons]
    rcases List.mem_cons.1 h with e | e
    · omega
    · have := ih e; omega
theorem getD_sum (l : List Nat) (i : Nat) : l.getD i 0 ≤ l.sum := by
  rw [List.getD_eq_getElem?_getD]
  by_cases h : i < l.length
  · rw [List.getElem?_eq_getElem h]; exact mem_sum (List.getElem_mem h)
  · rw [List.getElem?_eq_none (by omega)]; simp

/-- What once answers so far: its cells' blocks and its counts. -/
structure OnceAt (w wr : World) (o : Int) (v1 : Value) (o3 : Int) (v3 : Value) (l3 : List Nat) : Prop where
  b1 : SideBox wr w.heap.size o v1
  b2 : SideBox wr (w.heap.size + 1) 0 (.slice none 0 0)
  b3 : SideBox wr (w.heap.size + 1 + 1) o3 v3
  own : Mine w wr 22 v3 (uvals l3)
theorem OnceAt.on {w wr w' : World} {o o3 : Int} {v1 v3 : Value} {l3 : List Nat} (h : OnceAt w wr o v1 o3 v3 l3) (k : Kept (fun _ => False) wr w') : OnceAt w w' o v1 o3 v3 l3 :=
  ⟨h.b1.same k (fun x => x), h.b2.same k (fun x => x), h.b3.same k (fun x => x), h.own.on k⟩
theorem setCell_kept (w : World) (q j : Nat) (x : Value) : Kept (fun k => k = q) w (w.setCell ⟨q, j, none⟩ x) := (Kept.refl (fun k => k = q) w).setCell (p := ⟨q, j, none⟩) (fun _ => rfl) x
theorem SideBox.set1 {w : World} {q : Nat} {o : Int} {v : Value} (h : SideBox w q o v) (v' : Value) : SideBox (w.setCell ⟨q, 1, none⟩ v') q o v' := by
  unfold SideBox at *; simp [World.setCell, Array.getElem?_modify, h]
theorem SideBox.set0 {w : World} {q : Nat} {o : Int} {v : Value} (h : SideBox w q o v) (o' : Int) : SideBox (w.setCell ⟨q, 0, none⟩ (.int .i64 o')) q o' v := by
  unfold SideBox at *; simp [World.setCell, Array.getElem?_modify, h]
theorem OnceAt.set1 {w wr : World} {o o3 : Int} {v1 v3 v' : Value} {l' : List Nat} (b1 : SideBox wr w.heap.size o v1) (b2 : SideBox wr (w.heap.size + 1) 0 (.slice none 0 0)) (b3 : SideBox wr (w.heap.size + 1 + 1) o3 v3) (hm : Mine w wr 22 v' (uvals l')) :
    OnceAt w (wr.setCell ⟨w.heap.size + 1 + 1, 1, none⟩ v') o v1 o3 v' l' :=
  ⟨b1.same (setCell_kept _ _ _ _) (by omega), b2.same (setCell_kept _ _ _ _) (by omega), b3.set1 v', hm.keptS (setCell_kept _ _ _ _) (fun k e x => own_box hm.own b3 (by decide) (by rw [e, x])) (fun k e => by omega)⟩
theorem OnceAt.set0 {w wr : World} {o o3 : Int} {v1 v3 : Value} {l3 : List Nat} (h : OnceAt w wr o v1 o3 v3 l3) (o' : Int) : OnceAt w (wr.setCell ⟨w.heap.size + 1 + 1, 0, none⟩ (.int .i64 o')) o v1 o' v3 l3 :=
  ⟨h.b1.same (setCell_kept _ _ _ _) (by omega), h.b2.same (setCell_kept _ _ _ _) (by omega), h.b3.set0 o', h.own.keptS (setCell_kept _ _ _ _) (fun k e x => own_box h.own.own h.b3 (by decide) (by rw [e, x])) (fun k e => by omega)⟩

/-- The cells' blocks alone. -/
structure Boxes (w wr : World) (o : Int) (v1 : Value) (o3 : Int) (v3 : Value) : Prop where
  b1 : SideBox wr w.heap.size o v1
  b2 : SideBox wr (w.heap.size + 1) 0 (.slice none 0 0)
  b3 : SideBox wr (w.heap.size + 1 + 1) o3 v3
theorem OnceAt.boxes {w wr : World} {o o3 : Int} {v1 v3 : Value} {l3 : List Nat} (h : OnceAt w wr o v1 o3 v3 l3) : Boxes w wr o v1 o3 v3 := ⟨h.b1, h.b2, h.b3⟩
theorem Boxes.on {w wr w' : World} {o o3 : Int} {v1 v3 : Value} (h : Boxes w wr o v1 o3 v3) (k : Kept (fun _ => False) wr w') : Boxes w w' o v1 o3 v3 :=
  ⟨h.b1.same k (fun x => x), h.b2.same k (fun x => x), h.b3.same k (fun x => x)⟩
theorem Boxes.grow {w wr w' : World} {o o3 : Int} {v1 v3 v : Value} {xs : List Value} (h : Boxes w wr o v1 o3 v3) (hv : Mine w wr 22 v xs) (k : Kept (fun k => v.ownBlock = some k) wr w') : Boxes w w' o v1 o3 v3 :=
  ⟨h.b1.same k (own_box hv.own h.b1 (by decide)), h.b2.same k (own_box hv.own h.b2 (by decide)), h.b3.same k (own_box hv.own h.b3 (by decide))⟩
theorem mine_one {W w : World} (hk : Kept (fun _ => False) W w) (u : Value) : Mine W (w.alloc (.cells #[u] 22)) 22 (.slice (some ⟨w.heap.size, 0, none⟩) 1 1) [u] :=
  ⟨⟨rfl, .inr ⟨w.heap.size, 1, #[u], rfl, hk.size, heap_alloc_new w _, Nat.le_refl _, by unfold maxLen; omega, rfl, by simp⟩⟩, hk.alloc _⟩
theorem mine_empty {W w : World} (hk : Kept (fun _ => False) W w) : Mine W (w.alloc (.cells #[] 22)) 22 (.slice (some ⟨w.heap.size, 0, none⟩) 0 0) [] :=
  ⟨⟨rfl, .inr ⟨w.heap.size, 0, #[], rfl, hk.size, heap_alloc_new w _, Nat.le_refl _, by unfold maxLen; omega, rfl, rfl⟩⟩, hk.alloc _⟩

set_option maxHeartbeats 4000000 in
set_option maxRecDepth 100000 in
theorem refOnce_any (o : Int) (l : List Nat) (v : Value) (w : World) (hv : SlAt w v (uvals l)) (ho : -1000000000000 ≤ o ∧ o ≤ 1000000000000) (hl : l.length ≤ 1000000) (hs : l.sum < 18446744073709551616) :
    Calls Try.prog 43 #[.agg #[.int .i64 o, v]] w (SideOut w fun o' l' => o' = downO o l 1 ∧ l' = downL o l 1) := by
  obtain ⟨h0, h1⟩ := ho
  obtain ⟨ao, c, hval, _, _⟩ := hv.val
  rw [uvals_length] at hval
  subst hval
  obtain ⟨w0, hw0⟩ : ∃ w0, w0 = ((w.alloc (.cells #[.int .i64 o, .slice ao l.length c] 25)).alloc (.cells #[.int .i64 0, .slice none 0 0] 25)).alloc (.cells #[.int .i64 0, .slice none 0 0] 25) := ⟨_, rfl⟩
  have k0 : Kept (fun _ => False) w w0 := by rw [hw0]; exact (((Kept.refl _ w).alloc _).alloc _).alloc _
  have hat : OnceAt w w0 o (.slice ao l.length c) 0 (.slice none 0 0) [] := by
    refine ⟨?_, ?_, ?_, Mine.nil' _ k0⟩
    · rw [hw0]; exact (((Kept.refl (fun _ => False) _).alloc _).alloc _).same (heap_alloc_new w _) (fun x => x)
    · rw [hw0]
      have := ((Kept.refl (fun _ => False) ((w.alloc (.cells #[.int .i64 o, .slice ao l.length c] 25)).alloc (.cells #[.int .i64 0, .slice none 0 0] 25))).alloc (.cells #[.int .i64 0, .slice none 0 0] 25)).same (heap_alloc_new (w.alloc (.cells #[.int .i64 o, .slice ao l.length c] 25)) (.cells #[.int .i64 0, .slice none 0 0] 25)) (fun x => x)
      simpa [SideBox] using this
    · rw [hw0]
      have := heap_alloc_new ((w.alloc (.cells #[.int .i64 o, .slice ao l.length c] 25)).alloc (.cells #[.int .i64 0, .slice none 0 0] 25)) (.cells #[.int .i64 0, .slice none 0 0] 25)
      simpa [SideBox] using this
  have HV := Lib.hid hv
  have HAT := Lib.hid hat
  clear hv hat k0
  go_enter Try.func43, Try.ntmps43
  go_wp2
  rw [← hw0]
  clear hw0
  go_loopg [4, 5, 6, 7, 8, 9, 10, 11, 12, 13, 14, 15, 16, 17, 18, 19, 20, 21, 22, 23, 24, 25, 26, 27, 28, 29, 30, 31, 32, 33, 34, 35, 36, 37, 38, 39, 40, 41, 42, 43, 44, 45, 46, 47, 48, 49, 50, 51, 52, 53, 54, 55, 56, 57, 58, 59, 60, 61, 62, 63, 64, 65, 66, 67, 68, 69, 70, 71, 72, 73, 74, 75, 76, 77] l.length (fun g' s4 s5 s6 s7 s8 s9 s10 s11 s12 s13 s14 s15 s16 s17 s18 s19 s20 s21 s22 s23 s24 s25 s26 s27 s28 s29 s30 s31 s32 s33 s34 s35 s36 s37 s38 s39 s40 s41 s42 s43 s44 s45 s46 s47 s48 s49 s50 s51 s52 s53 s54 s55 s56 s57 s58 s59 s60 s61 s62 s63 s64 s65 s66 s67 s68 s69 s70 s71 s72 s73 s74 s75 s76 s77 wr => ∃ (i : Nat) (v3 : Value), i ≤ l.length ∧ g' = l.length - i ∧ s4 = .int .i64 i ∧ OnceAt w wr o (.slice ao l.length c) (downO o (l.take i) 1) v3 (downL o (l.take i) 1))
  case atStart => exact ⟨0, _, Nat.zero_le _, rfl, rfl, by rw [List.take_zero]; exact HAT.out⟩
  case round =>
    obtain ⟨i, v3, hil, rfl, rfl, hat⟩ := hrel
    have HA := Lib.hid hat
    obtain ⟨⟨b0, b1⟩, _⟩ := hat.b1.c
    by_cases hd : i < l.length
    · have hdi : (i : Int) < (l.length : Int) := by omega
      have i0 : (0 : Int) ≤ (i : Int) := by omega
      have HD := Lib.hid hd
      obtain ⟨⟨d0, d1⟩, f0, f1⟩ := hat.b3.c
      have HSL := Lib.hid (hat.own.kept |> fun k => HV.out.kept k (fun _ _ x => x))
      obtain ⟨g, off, rfl, c0⟩ := HSL.out.elem (uvals_get hd)
      have hts := take_snoc hd
      have hsn := sum_take_le l (i + 1)
      obtain ⟨x, hx⟩ : ∃ x, x = l.getD i 0 := ⟨_, rfl⟩
      rw [← hx] at c0 hts
      have hlt : (l.take i).length = i := by rw [List.length_take]; omega
      obtain ⟨T, hT⟩ : ∃ T, T = l.take i := ⟨_, rfl⟩
      rw [← hT] at hts HA hat hlt d0
      rw [hts, List.sum_append, List.sum_singleton] at hsn
      have hla := downL_sum o T 1
      have t1 : IntKind.i64.wrap (o + (i : Int)) = o + (i : Int) := IntWalk.i64_in _ ⟨by omega, by omega⟩
      have HH := Lib.hid (fun w' => refHalf_any (o + (i : Int)) w' ⟨by omega, by omega⟩)
      obtain ⟨A, hA⟩ : ∃ A, A = (o + (i : Int)) / 2 := ⟨_, rfl⟩
      rw [← hA] at HH
      have e2 : (2 : Int) ^ 1 = 2 := rfl
      obtain ⟨a3, q3, rfl⟩ := hat.own.slice
      rw [uvals_length, downL_length, hlt] at HA d1
      have HTS := Lib.hid hts
      have HX := Lib.hid hx
      clear hat hx hT hts
      obtain ⟨Wd, hWd⟩ : ∃ Wd, Wd = dWidth o i 1 := ⟨_, rfl⟩
      rw [← hWd] at HA d1
      by_cases hi0 : i = 0
      · have hT0 : T = [] := List.eq_nil_of_length_eq_zero (by omega)
        have q0 : ((Wd : Int) == 0) = true := beqT (by rw [hWd, hi0]; rfl)
        have HNEW := Lib.hid (show downO o (l.take (i + 1)) 1 = A ∧ downL o (l.take (i + 1)) 1 = [x] from ⟨by rw [HTS.out, hT0]; unfold downO; rw [if_neg (by simp), e2, hA, hi0]; simp, by rw [HTS.out, hT0]; exact downL_one o x 1⟩)
        have HA1 := Lib.hid (HA.out.set0 A)
        obtain ⟨_, _, e', c1⟩ := (HV.out.kept HA1.out.own.kept (fun _ _ x => x)).elem (uvals_get hd)
        injection e' with e'; injection e' with e1 e2'; subst e1; subst e2'
        rw [← HX.out] at c1
        have ha2 := HA1.out.on ((Kept.refl (fun _ => False) _).alloc (.cells #[.int .u64 (x : Int)] 22))
        have HA2 := Lib.hid ha2
        obtain ⟨⟨_, g1⟩, g2, g3⟩ := ha2.b3.c
        clear hA hla hlt hsn hil hd e2 hi0 hT0 hWd HSL ha2
        go_wp2_with (first | (go_at_call 49; refine (HH.out _).mono ?_; rintro e w1 ⟨rfl, rfl⟩) | fail)
        have HB := Lib.hid (OnceAt.set1 HA2.out.b1 HA2.out.b2 HA2.out.b3 (l' := [x]) (mine_one HA1.out.own.kept (.int .u64 (x : Int))))
        go_roundg (l.length - (i + 1))
        case measure => have := HD.out; omega
        case rel =>
          have hb := HB.out
          rw [show (w1.setCell ⟨w.heap.size + 1 + 1, 0, none⟩ (.int .i64 A)).heap.size = w1.heap.size by simp] at hb
          exact ⟨i + 1, _, HD.out, rfl, by go_num, by rw [HNEW.out.1, HNEW.out.2]; exact hb⟩
      · have hT0 : T.length ≠ 0 := by omega
        have hWi : Wd = dIdx o 1 (i - 1) + 1 := by rw [hWd]; unfold dWidth; rw [if_neg hi0]
        have hWp : 0 < Wd := by omega
        have hWle := dWidth_le o i 1
        rw [← hWd] at hWle
        have hnx := dIdx_next o 1 (i - 1)
        rw [show i - 1 + 1 = i by omega] at hnx
        have hO3 : downO o T 1 = o / 2 := by unfold downO; rw [if_neg hT0]; rfl
        have hO4 : downO o (l.take (i + 1)) 1 = o / 2 := by rw [HTS.out]; unfold downO; rw [if_neg (by simp)]; rfl
        have hix := dIdx_eq o 1 i
        rw [e2, ← hA] at hix
        have q0 : ((Wd : Int) == 0) = false := beqF (by omega)
        have hsame := downL_same o T x 1 hT0
        have hnew := downL_new o T x 1 hT0
        rw [hlt, ← HTS.out] at hsame hnew
        rw [← hWd] at hsame
        rw [hO3] at HA d0
        obtain ⟨O3, hO⟩ : ∃ O3, O3 = o / 2 := ⟨_, rfl⟩
        rw [← hO] at HA d0 hix hO4
        have HO4 := Lib.hid hO4
        have hOb : -1000000000000 ≤ O3 ∧ O3 ≤ 1000000000000 := by omega
        obtain ⟨L3, hL3⟩ : ∃ L3, L3 = downL o T 1 := ⟨_, rfl⟩
        have hl3 : L3.length = Wd := by rw [hL3, downL_length, hlt, hWd]
        rw [← hL3] at HA hsame hnew hla
        obtain ⟨n1, hn1⟩ : ∃ n1, n1 = Wd - 1 := ⟨_, rfl⟩
        rw [← hn1] at hsame
        have w1' : IntKind.i64.wrap (O3 + (Wd : Int)) = O3 + (Wd : Int) := IntWalk.i64_in _ ⟨by omega, by omega⟩
        have w2' : IntKind.i64.wrap (O3 + (Wd : Int) - 1) = O3 + (Wd : Int) - 1 := IntWalk.i64_in _ ⟨by omega, by omega⟩
        obtain ⟨g3, off3, rfl, c3⟩ := HA.out.own.at_.elem (uvals_get (j := n1) (by omega))
        obtain ⟨y, hy⟩ : ∃ y, y = L3.getD n1 0 := ⟨_, rfl⟩
        rw [← hy] at c3 hsame
        have hys := getD_sum L3 n1
        rw [← hy] at hys
        by_cases hcond : dIdx o 1 i = dIdx o 1 (i - 1)
        · have q1 : (A == O3 + (Wd : Int) - 1) = true := beqT (by omega)
          have HNEW := Lib.hid (hsame hcond)
          obtain ⟨Y, hY⟩ : ∃ Y, Y = y + x := ⟨_, rfl⟩
          rw [← hY] at HNEW
          have u1 : IntKind.u64.wrap ((y : Int) + (x : Int)) = (Y : Int) := by rw [IntKind.wrap_u64]; omega
          have u2 : IntKind.u64.wrap (Y : Int) = (Y : Int) := by rw [IntKind.wrap_u64]; omega
          have u3 : (y : Int) + (x : Int) = (Y : Int) := by omega
          have n2 : IntKind.i64.wrap ((Wd : Int) - 1) = (n1 : Int) := by rw [IntWalk.i64_in _ ⟨by omega, by omega⟩]; omega
          have n3 : (Wd : Int) - 1 = (n1 : Int) := by omega
          have n4 : IntKind.i64.wrap (n1 : Int) = (n1 : Int) := IntWalk.i64_in _ ⟨by omega, by omega⟩
          have n0 : (0 : Int) ≤ (n1 : Int) := by omega
          have nW : (n1 : Int) < (Wd : Int) := by omega
          have HL3 := Lib.hid (show L3.length = Wd ∧ n1 ≤ Wd ∧ Wd ≤ 1000000 by omega)
          obtain ⟨iU, hiU, hzU0, hzU1, hzU2⟩ := info_parts Try.infoU64
          have hq3 : n1 ≤ q3 := by
            have := HA.out.own.own.2
            rcases this with ⟨e, _⟩ | ⟨_, _, _, e, _, _, h6, h7, _⟩
            · cases e
            · injection e with e1 e2 e3; omega
          have s1 : ∀ w, (Instr.slice 23 (.slice (some ⟨g3, off3, none⟩) Wd q3) none (some (.int .i64 (n1 : Int))) none).run Try.prog w = .ok (.slice (some ⟨g3, off3, none⟩) n1 q3) w :=
            fun w => run_cutH (P := Try.prog) Try.underlying23 hiU hzU1 (some ⟨g3, off3, none⟩) Wd q3 n1 hq3 w
          have s2 : ∀ w, (Instr.sliceAt 23 (.slice (some ⟨g3, off3, none⟩) Wd q3) none (some (.int .i64 (n1 : Int))) none).run Try.prog w = .ok (.slice (some ⟨g3, off3, none⟩) n1 q3) w :=
            fun w => run_cutHAt (P := Try.prog) Try.underlying23 hiU hzU1 (some ⟨g3, off3, none⟩) Wd q3 n1 hq3 w
          clear hA hla hlt hsn hil hd e2 hi0 hT0 hWd HSL hcond hsame hnew hY hy hys hix hO hOb hO3 hO4 hL3 hn1 hWi hWle hnx hl3 hiU hzU0 hzU1 hzU2 hq3
          go_wp2_with (first | (go_at_call 49; refine (HH.out _).mono ?_; rintro e w1 ⟨rfl, rfl⟩) | fail)
          go_quiet (fail)
          obtain ⟨w2, hw2⟩ : ∃ w2, w2 = w1.drewN nq := ⟨_, rfl⟩
          have k2 : Kept (fun _ => False) w1 w2 := by rw [hw2]; exact (Kept.refl _ _).drewN _
          have hb2 := HA.out.boxes.on k2
          have HB2 := Lib.hid (hb2.on ((Kept.refl (fun _ => False) _).alloc (.cells #[] 22)))
          have HM2 := Lib.hid (mine_empty (HA.out.own.kept.trans k2))
          have hsl := ((HA.out.own.on (k2.alloc (.cells #[] 22))).at_.takeH (k := n1) HL3.out.2.1)
          rw [← uvals_take] at hsl
          have HSRC := Lib.hid (hsl.src (P := Try.prog) Try.underlying23 (uvals_one _))
          have HLT := Lib.hid (show (uvals (L3.take n1)).length ≤ 1000000 by rw [uvals_length, List.length_take]; have := HL3.out; omega)
          obtain ⟨⟨b0, b1⟩, _⟩ := HB2.out.b1.c
          obtain ⟨⟨d0, d1⟩, _⟩ := HB2.out.b3.c
          rw [← hw2]
          clear hw2 k2 hb2 hsl
          go_wp2_with (first
            | (have _tok := HM6.out; at_builtin; refine wpList_mineU rfl (.tmp 63) (.tmp 65) rfl w _ _ rfl (HM6.out.alloc _) _ _ rfl (src_oneU w6 (.int .u64 (Y : Int)) rfl) (by have := HLT.out; simp only [List.length_singleton]; omega) ?_; intro v7 w7 hm7 hk7 _; have HM7 := Lib.hid hm7; have hb7 := (HB6.out.on ((Kept.refl (fun _ => False) _).alloc (.cells #[.int .u64 (Y : Int)] 22))).grow (HM6.out.alloc _) hk7; have HB7 := Lib.hid hb7; obtain ⟨a7, c7, rfl⟩ := hm7.slice; obtain ⟨_, g2, g3'⟩ := hb7.b3.c; clear hm7 hk7 hb7)
            | (at_builtin; refine wpList_mineU rfl (.tmp 57) (.tmp 62) rfl w _ _ rfl HM2.out _ _ rfl HSRC.out (by have := HLT.out; simp only [List.length_nil]; omega) ?_; intro v6 w6 hm6 hk6 _; rw [List.nil_append] at hm6; have HM6 := Lib.hid hm6; have HB6 := Lib.hid (HB2.out.grow HM2.out hk6); clear hm6 hk6)
            | fail)
          have hm8 := HM7.out
          rw [List.length_append, List.length_singleton] at hm8
          have HF := Lib.hid (OnceAt.set1 HB7.out.b1 HB7.out.b2 HB7.out.b3 (l' := L3.take n1 ++ [Y]) (by rw [uvals_append]; exact hm8))
          clear hm8
          go_roundg (l.length - (i + 1))
          case measure => have := HD.out; omega
          case rel => exact ⟨i + 1, _, HD.out, rfl, by go_num, by rw [HNEW.out, HO4.out]; exact HF.out⟩
        · have q1 : (A == O3 + (Wd : Int) - 1) = false := beqF (by omega)
          have HNEW := Lib.hid (hnew (by omega))
          have HLL := Lib.hid (show L3.length ≤ 1000000 by omega)
          clear hA hla hlt hsn hil hd e2 hi0 hT0 hWd HSL hcond hsame hnew hy hys hix hO hOb hO3 hO4 hL3 hn1 hWi hWle hnx hl3
          go_wp2_with (first | (go_at_call 49; refine (HH.out _).mono ?_; rintro e w1 ⟨rfl, rfl⟩) | fail)
          have k2 : Kept (fun _ => False) w1 ((w1.alloc (.cells #[.int .u64 (x : Int)] 22)).drew) := ((Kept.refl _ w1).alloc _).drew
          have HM2 := Lib.hid (HA.out.own.on k2)
          have HB2 := Lib.hid (HA.out.boxes.on k2)
          have HSX := Lib.hid (src_one_drew (P := Try.prog) (tx := 23) w1 Try.underlying23 (.int .u64 (x : Int)) rfl)
          obtain ⟨⟨_, b1x⟩, _⟩ := (HA.out.boxes.on ((Kept.refl _ w1).alloc (.cells #[.int .u64 (x : Int)] 22))).b1.c
          obtain ⟨⟨_, d1x⟩, _⟩ := (HA.out.boxes.on ((Kept.refl _ w1).alloc (.cells #[.int .u64 (x : Int)] 22))).b3.c
          clear k2
          go_region_law (refine step_mineU (by rfl) (.tmp 69) (.tmp 75) (by rfl) w _ _ (by rfl) HM2.out _ [.int .u64 (x : Int)] (by rfl) HSX.out (by have := HLL.out; simp only [List.length_singleton, uvals_length]; omega) ?_; intro v7 w7 hm7 hk7 _; have HM7 := Lib.hid hm7; have hb7 := HB2.out.grow HM2.out hk7; have HB7 := Lib.hid hb7; obtain ⟨a7, c7, rfl⟩ := hm7.slice; obtain ⟨_, g2, g3'⟩ := hb7.b3.c; clear hm7 hk7 hb7)
          all_goals
            go_wp2
            have hm8 := HM7.out
            rw [List.length_append, List.length_singleton] at hm8
            have HF := Lib.hid (OnceAt.set1 HB7.out.b1 HB7.out.b2 HB7.out.b3 (l' := L3 ++ [x]) (by rw [uvals_append]; exact hm8))
            clear hm8
            go_roundg (l.length - (i + 1))
            case measure => have := HD.out; omega
            case rel => exact ⟨i + 1, _, HD.out, rfl, by go_num, by rw [HNEW.out, HO4.out]; exact HF.out⟩
    · obtain rfl : i = l.length := by omega
      rw [List.take_length] at HA hat
      obtain ⟨⟨d0, d1⟩, _⟩ := hat.b3.c
      obtain ⟨⟨_, _⟩, f0, f1⟩ := hat.b2.c
      obtain ⟨O3, hO⟩ : ∃ O3, O3 = downO o l 1 := ⟨_, rfl⟩
      obtain ⟨L3, hL3⟩ : ∃ L3, L3 = downL o l 1 := ⟨_, rfl⟩
      rw [← hO, ← hL3] at HA
      rw [← hO] at d0
      obtain ⟨a3, q3, rfl⟩ := hat.own.slice
      rw [← hL3] at d1 HA
      have HR := Lib.hid (show O3 = downO o l 1 ∧ L3 = downL o l 1 from ⟨hO, hL3⟩)
      clear hat hO hL3 hd
      go_wp2
      refine side_end (o := O3) (v := .slice a3 (uvals L3).length q3) Try.results43 rfl rfl (HA.out.b2.set _ _) ?_
      exact ⟨O3, L3, _, HR.out, rfl, HA.out.own.setBox HA.out.b2 (by decide) (by omega) _ _⟩
end Go.Proofs.Ytbjpcddnjndjlaa
