/- The document's answer for hist: Trim. -/
import Derived.Test.YtbjpcddnjndjlaaJ4
namespace Go.Proofs.Ytbjpcddnjndjlaa
open Go.RowKit
attribute [local go_sem ↓] Go.wp_at_zero Go.wp_at_succ

theorem wpList_mineU {ops : Array Oper} {rest : List Oper} {o : Oper} {a : Act} {Q : Exit → Act → World → Prop} {w : World} (hgd : o.guard = none) (s x : Operand)
    (ho : o.op = .call { callee := .builtin .append, args := #[s, x], argTypes := #[23, 23] })
    (W : World) (v : Value) (xs : List Value) (hv : a.eval s = v) (hm : Mine W w 22 v xs)
    (y : Value) (news : List Value) (hy : a.eval x = y) (hs : Src Try.prog 1 23 y news.length news w)
    (hl : xs.length + news.length ≤ 1000000000000)
    (h : ∀ v' w', Mine W w' 22 v' (xs ++ news) → Kept (fun k => v.ownBlock = some k) w w' → (v'.ownBlock = v.ownBlock ∨ v'.ownBlock = some w.heap.size) → wpList Try.prog ops Q rest (a.put o.dst v') w') : wpList Try.prog ops Q (o :: rest) a w := by
  obtain ⟨iI, hiI, hzI0, hzI1, hzI2⟩ := info_parts Try.infoU64
  exact wpList_mine2 hgd s x _ _ ho 22 iI (.int .u64 0) 8 Try.underlying23 hiI hzI0 hzI1 hzI2 rfl (by omega) W v xs hv hm y news hy hs hl h
theorem step_mineU {ops : Array Oper} {o : Oper} {a : Act} {K : Act → World → Prop} {Q : Exit → Act → World → Prop} {E : Prop} {w : World} (hgd : o.guard = none) (s x : Operand)
    (ho : o.op = .call { callee := .builtin .append, args := #[s, x], argTypes := #[23, 23] })
    (W : World) (v : Value) (xs : List Value) (hv : a.eval s = v) (hm : Mine W w 22 v xs)
    (y : Value) (news : List Value) (hy : a.eval x = y) (hs : Src Try.prog 1 23 y news.length news w)
    (hl : xs.length + news.length ≤ 1000000000000)
    (h : ∀ v' w', Mine W w' 22 v' (xs ++ news) → Kept (fun k => v.ownBlock = some k) w w' → (v'.ownBlock = v.ownBlock ∨ v'.ownBlock = some w.heap.size) → K (a.put o.dst v') w') :
    if Region.wanted o (yielded ops a.tmps) = true then Oper.wp Try.prog o a w K Q else E := by
  obtain ⟨iI, hiI, hzI0, hzI1, hzI2⟩ := info_parts Try.infoU64
  exact step_mine hgd s x _ _ ho 22 iI (.int .u64 0) 8 Try.underlying23 hiI hzI0 hzI1 hzI2 rfl (by omega) W v xs hv hm y news hy hs hl h
theorem src_oneU (w : World) (u : Value) (hu : u.oneCell' = true) : Src Try.prog 1 23 (.slice (some ⟨w.heap.size, 0, none⟩) 1 1) ([u] : List Value).length [u] (w.alloc (.cells #[u] 22)) := src_one w Try.underlying23 u hu
theorem uvals_drop (l : List Nat) (i : Nat) : uvals (l.drop i) = (uvals l).drop i := by unfold uvals; rw [List.map_drop]
theorem uvals_take (l : List Nat) (i : Nat) : uvals (l.take i) = (uvals l).take i := by unfold uvals; rw [List.map_take]
theorem uvals_append (l m : List Nat) : uvals (l ++ m) = uvals l ++ uvals m := by unfold uvals; rw [List.map_append]
theorem getD_drop (l : List Nat) (i j : Nat) : (l.drop i).getD j 0 = l.getD (i + j) 0 := by
  simp only [List.getD_eq_getElem?_getD, List.getElem?_drop]

set_option maxHeartbeats 4000000 in
set_option maxRecDepth 100000 in
theorem refTrim_any (o : Int) (l : List Nat) (v : Value) (w : World) (hv : SlAt w v (uvals l)) (hcap : ∀ a n c, v = .slice a n c → n ≤ c) (ho : -4000000000000000000 ≤ o ∧ o ≤ 4000000000000000000) (hl : l.length ≤ 1000000) :
    Calls Try.prog 21 #[.agg #[.int .i64 o, v]] w (SideOut w (TrimOf o l)) := by
  obtain ⟨h0, h1⟩ := ho
  have hv0 := Lib.hid hv
  obtain ⟨ao, c, hval, _, _⟩ := hv.val
  rw [uvals_length] at hval
  subst hval
  have hcp := hcap _ _ _ rfl
  obtain ⟨w0, hw0⟩ : ∃ w0, w0 = ((w.alloc (.cells #[.int .i64 o, .slice ao l.length c] 25)).alloc (.cells #[.int .i64 0, .slice none 0 0] 25)) := ⟨_, rfl⟩
  have k0 : Kept (fun _ => False) w w0 := by rw [hw0]; exact ((Kept.refl _ w).alloc _).alloc _
  have rx : SideBox w0 (w.heap.size + 1) 0 (.slice none 0 0) := by
    rw [hw0]
    have := heap_alloc_new (w.alloc (.cells #[.int .i64 o, .slice ao l.length c] 25)) (.cells #[.int .i64 0, .slice none 0 0] 25)
    simpa [SideBox] using this
  have HV := Lib.hid (hv.kept k0 (fun _ _ x => x))
  have RX := Lib.hid rx
  have K0 := Lib.hid k0
  obtain ⟨iU, hiU, hzU0, hzU1, hzU2⟩ := info_parts Try.infoU64
  have HIU := Lib.hid hiU
  have HZU := Lib.hid hzU1
  clear hv hcap rx k0 hiU hzU0 hzU1 hzU2
  go_enter Try.func21, Try.ntmps21
  go_wp2
  rw [← hw0]
  clear hw0
  go_loopg [3, 4, 10, 11, 12, 13, 14, 15, 16, 17, 18, 19, 20, 21, 22] l.length (fun g s3 s4 s10 s11 s12 s13 s14 s15 s16 s17 s18 s19 s20 s21 s22 wr => ∃ (i m : Nat) (a3 : Option Addr) (c3 : Nat), i + m = l.length ∧ g = m ∧ s3 = .slice a3 m c3 ∧ m ≤ c3 ∧ SlAt w0 (.slice a3 m c3) (uvals (l.drop i)) ∧ s4 = .int .i64 (o + (i : Int)) ∧ (∀ j, j < i → l.getD j 0 = 0) ∧ w0 = wr)
  case atStart => exact ⟨0, l.length, ao, c, by omega, rfl, rfl, hcp, HV.out, by simp, fun j h => by omega, rfl⟩
  case round =>
    obtain ⟨i, m, a3, c3, him, rfl, rfl, hmc, hs3, rfl, hz, rfl⟩ := hrel
    obtain ⟨m, hm⟩ : ∃ m, m = gk := ⟨_, rfl⟩
    subst hm
    have HZ := Lib.hid hz
    have HS3 := Lib.hid hs3
    have HIM := Lib.hid him
    clear hz hs3
    by_cases hm0 : m = 0
    · have HF : Hid (TrimOf o l 0 []) := Lib.hid (.inl ⟨fun j hj => HZ.out j (by omega), rfl, rfl⟩)
      subst hm0
      clear him
      go_wp2
      go_loopg [3] 0 (fun g s3 wr => g = 0 ∧ s3 = .slice a3 0 c3 ∧ w0 = wr)
      case atStart => exact ⟨rfl, rfl, rfl⟩
      case round =>
        obtain ⟨rfl, rfl, rfl⟩ := hrel
        obtain ⟨⟨r0, r1⟩, f0, f1⟩ := RX.out.c
        go_wp2
        refine side_end (o := 0) (v := .slice none 0 0) Try.results21 rfl rfl (RX.out.set 0 (.slice none 0 0)) ?_
        exact ⟨0, [], _, HF.out, rfl, Mine.nil' _ (two_kept K0.out (by omega))⟩
    · have hml : (0 : Int) < (m : Int) := by omega
      have hmln : 0 < m := by omega
      have HLEN : Hid ((l.drop i).length = m) := Lib.hid (by rw [List.length_drop]; omega)
      obtain ⟨g, off, rfl, c0⟩ := HS3.out.elem (uvals_get (j := 0) (by rw [HLEN.out]; omega))
      rw [Nat.add_zero] at c0
      obtain ⟨x, hx⟩ : ∃ x, x = (l.drop i).getD 0 0 := ⟨_, rfl⟩
      rw [← hx] at c0
      have HX := Lib.hid hx
      clear hx
      by_cases hx0 : x = 0
      · have qx : ((x : Int) == 0) = true := beqT (by omega)
        obtain ⟨m', hm'⟩ : ∃ m', m' = m - 1 := ⟨_, rfl⟩
        obtain ⟨c', hc'⟩ : ∃ c', c' = c3 - 1 := ⟨_, rfl⟩
        obtain ⟨a4, ha4⟩ : ∃ a : Option Addr, a = if c3 = 1 then some ⟨g, off, none⟩ else (some (⟨g, off, none⟩ : Addr)).map (·.add 1) := ⟨_, rfl⟩
        have s1 : ∀ w, (Instr.slice 23 (.slice (some ⟨g, off, none⟩) m c3) (some (.int .i64 1)) none none).run Try.prog w = .ok (.slice a4 m' c') w := fun w => by
          have := run_cutL (P := Try.prog) Try.underlying23 HIU.out HZU.out (some ⟨g, off, none⟩) m c3 1 (by omega) w
          rw [← ha4, ← hm', ← hc'] at this; exact this
        have s2 : ∀ w, (Instr.sliceAt 23 (.slice (some ⟨g, off, none⟩) m c3) (some (.int .i64 1)) none none).run Try.prog w = .ok (.slice a4 m' c') w := fun w => by
          have := run_cutLAt (P := Try.prog) Try.underlying23 HIU.out HZU.out (some ⟨g, off, none⟩) m c3 1 (by omega) w
          rw [← ha4, ← hm', ← hc'] at this; exact this
        have hsl := HS3.out.cutL (lo := 1) (by omega) hmc
        rw [← ha4, ← hm', ← hc', ← uvals_drop, List.drop_drop] at hsl
        have HSL := Lib.hid hsl
        have HM := Lib.hid (show m' < m ∧ i + 1 + m' = l.length ∧ m' ≤ c' by omega)
        have HZ2 := Lib.hid (show ∀ j, j < i + 1 → l.getD j 0 = 0 from fun j hj => by
          by_cases e : j = i
          · have := HX.out; rw [getD_drop, Nat.add_zero] at this; rw [e, ← this]; exact hx0
          · exact HZ.out j (by omega))
        have e1 : IntKind.i64.wrap (o + (i : Int) + 1) = o + (i : Int) + 1 := IntWalk.i64_in _ ⟨by omega, by omega⟩
        have HE := Lib.hid (show o + (i : Int) + 1 = o + ((i + 1 : Nat) : Int) by omega)
        clear ha4 hm' hc' hsl hx0
        go_wp2
        go_roundg m'
        case measure => exact HM.out.1
        case rel => exact ⟨i + 1, m', a4, c', HM.out.2.1, rfl, rfl, HM.out.2.2, HSL.out, by rw [HE.out], HZ2.out, rfl⟩
      · have qx : ((x : Int) == 0) = false := beqF (by omega)
        have HXN := Lib.hid hx0
        obtain ⟨L, hL⟩ : ∃ L, L = l.drop i := ⟨_, rfl⟩
        rw [← hL] at HS3 HLEN HX
        have HL := Lib.hid hL
        clear hL hx0
        go_wp2
        go_loopg [3, 23, 24, 25, 26, 27, 28, 29, 30, 31, 32, 33, 34, 35, 36, 37, 38, 39] m (fun g' s3 s23 s24 s25 s26 s27 s28 s29 s30 s31 s32 s33 s34 s35 s36 s37 s38 s39 wr => ∃ b : Nat, 0 < b ∧ b ≤ m ∧ g' = b ∧ s3 = .slice (some ⟨g, off, none⟩) b c3 ∧ (∀ j, b ≤ j → j < m → L.getD j 0 = 0) ∧ w0 = wr)
        case atStart => exact ⟨m, hmln, Nat.le_refl _, rfl, rfl, fun j h1 h2 => by omega, rfl⟩
        case round =>
          obtain ⟨b, hb0, hbm, rfl, rfl, hz2, rfl⟩ := hrel
          have HZ2 := Lib.hid hz2
          obtain ⟨b', hb'⟩ : ∃ b', b' = gk - 1 := ⟨_, rfl⟩
          have e1 : IntKind.i64.wrap ((gk : Int) - 1) = (b' : Int) := by rw [IntWalk.i64_in _ ⟨by omega, by omega⟩]; omega
          have e2 : (gk : Int) - 1 = (b' : Int) := by omega
          have e3 : IntKind.i64.wrap (b' : Int) = (b' : Int) := IntWalk.i64_in _ ⟨by omega, by omega⟩
          have b'0 : (0 : Int) ≤ (b' : Int) := by omega
          have b'l : (b' : Int) < (gk : Int) := by omega
          have hb0i : (0 : Int) < (gk : Int) := by omega
          obtain ⟨_, _, e', cb⟩ := HS3.out.elem (uvals_get (j := b') (by rw [HLEN.out]; omega))
          injection e' with e'; injection e' with e1' e2'; subst e1'; subst e2'
          obtain ⟨y, hye⟩ : ∃ y, y = L.getD b' 0 := ⟨_, rfl⟩
          rw [← hye] at cb
          have HYE := Lib.hid hye
          clear hz2 hye
          by_cases hy : y = 0
          · have hne : b' ≠ 0 := by
              intro e
              have h1 := HYE.out
              rw [e, ← HX.out] at h1
              exact HXN.out (by omega)
            have qy : ((y : Int) == 0) = true := beqT (by omega)
            have s1 : ∀ w, (Instr.slice 23 (.slice (some ⟨g, off, none⟩) gk c3) none (some (.int .i64 (b' : Int))) none).run Try.prog w = .ok (.slice (some ⟨g, off, none⟩) b' c3) w :=
              fun w => run_cutH (P := Try.prog) Try.underlying23 HIU.out HZU.out (some ⟨g, off, none⟩) gk c3 b' (by omega) w
            have s2 : ∀ w, (Instr.sliceAt 23 (.slice (some ⟨g, off, none⟩) gk c3) none (some (.int .i64 (b' : Int))) none).run Try.prog w = .ok (.slice (some ⟨g, off, none⟩) b' c3) w :=
              fun w => run_cutHAt (P := Try.prog) Try.underlying23 HIU.out HZU.out (some ⟨g, off, none⟩) gk c3 b' (by omega) w
            have HZ3 := Lib.hid (show ∀ j, b' ≤ j → j < m → L.getD j 0 = 0 from fun j h1 h2 => by
              by_cases e : j = b'
              · rw [e, ← HYE.out]; exact hy
              · exact HZ2.out j (by omega) h2)
            have HB := Lib.hid (show 0 < b' ∧ b' ≤ m ∧ b' < gk by omega)
            clear hy hb' hbm hb0 hne
            go_wp2
            go_roundg b'
            case measure => exact HB.out.2.2
            case rel => exact ⟨b', HB.out.1, HB.out.2.1, rfl, rfl, HZ3.out, rfl⟩
          · have qy : ((y : Int) == 0) = false := beqF (by omega)
            have qz : ((gk : Int) == 0) = false := beqF (by omega)
            have HF : Hid (TrimOf o l (o + (i : Int)) (L.take gk)) := Lib.hid (.inr ⟨i, i + gk, by omega, by omega, HZ.out, fun j h1 h2 => by
                have := HZ2.out (j - i) (by omega) (by have := HIM.out; omega)
                rw [HL.out, getD_drop] at this
                rwa [show i + (j - i) = j by omega] at this, by
                have := HX.out; rw [HL.out, getD_drop, Nat.add_zero] at this; rw [← this]; exact HXN.out, by
                have h1 := HYE.out
                rw [HL.out, getD_drop] at h1
                rw [show i + gk - 1 = i + b' by omega, ← h1]; exact hy, rfl, by rw [HL.out, show i + gk - i = gk by omega]⟩)
            have hsl := (HS3.out.takeH (k := gk) hbm)
            rw [← uvals_take] at hsl
            have HSRC := Lib.hid (hsl.src (P := Try.prog) Try.underlying23 (uvals_one _))
            have HLT := Lib.hid (show (uvals (L.take gk)).length ≤ 1000000 by rw [uvals_length, List.length_take]; have := HLEN.out; omega)
            clear hy hb' hbm hsl
            go_wp2_with (at_builtin; refine wpList_mineU rfl (.tmp 44) (.tmp 45) rfl w _ _ rfl (Mine.nil' _ K0.out) _ _ rfl HSRC.out (by have := HLT.out; simp only [List.length_nil]; omega) ?_; intro v6 w6 hm6 hk6 _; rw [List.nil_append] at hm6; obtain ⟨a6, c6, rfl⟩ := hm6.slice; have HM6 := Lib.hid hm6; have rx6 := RX.out.same hk6 (fun e => by cases e); have RX6 := Lib.hid rx6; obtain ⟨⟨r0, r1⟩, f0, f1⟩ := rx6.c; clear hm6 hk6 rx6)
            refine side_end (o := o + (i : Int)) (v := .slice a6 (uvals (L.take gk)).length c6) Try.results21 rfl rfl (RX6.out.set _ _) ?_
            exact ⟨o + (i : Int), _, _, HF.out, rfl, HM6.out.setBox RX6.out (by decide) (by omega) _ _⟩
end Go.Proofs.Ytbjpcddnjndjlaa
